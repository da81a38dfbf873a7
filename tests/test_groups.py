import copy
import unittest

from stuckwires.errors import NoFault
from stuckwires.faults import every_fault
from stuckwires.findings import first_test
from stuckwires.groups import fault_groups, parted_at
from stuckwires.works import works_of
from tests import oracle
from tests.test_faults import NO_FAULTS, SMALL
from tests.test_findings import SPARE


class PartedAt(unittest.TestCase):
    def test_the_first_row_in_order(self):
        works = works_of(2, [("and", (0, 1))], [2])
        self.assertEqual(parted_at(works, [("wire", 2, 1)], [("wire", 0, 1)]), [0, 0])
        self.assertEqual(parted_at(works, [("wire", 0, 1)], [("wire", 1, 1)]), [0, 1])
        self.assertEqual(parted_at(works, [("wire", 1, 1)], [("wire", 0, 0)]), [1, 0])
        self.assertEqual(parted_at(works, [("wire", 0, 0)], []), [1, 1])

    def test_alike_ones(self):
        works = works_of(2, [("and", (0, 1))], [2])
        self.assertIsNone(parted_at(works, [("wire", 0, 0)], [("wire", 1, 0)]))
        self.assertIsNone(parted_at(works, [("leg", 0, 0, 0)], [("wire", 2, 0)]))
        self.assertIsNone(parted_at(works, [("wire", 0, 1)], [("wire", 0, 1)]))
        self.assertIsNone(parted_at(works, [("wire", 0, 1), ("wire", 1, 1)], [("wire", 2, 1), ("leg", 0, 0, 0)]))

    def test_unlike_worths_of_wires_that_no_output_sees(self):
        works = works_of(1, [("not", (0,))], [0])
        self.assertIsNone(parted_at(works, [("wire", 1, 0)], [("wire", 1, 1)]))

    def test_both_may_be_found_and_unlike(self):
        works = works_of(1, [("not", (0,))], [0, 1])
        self.assertEqual(parted_at(works, [("wire", 0, 1)], [("wire", 1, 0)]), [0])
        self.assertEqual(parted_at(works, [("wire", 1, 1)], [("wire", 1, 0)]), [0])

    def test_the_order_of_outputs_counts(self):
        # The one harms the first output, the other the second one in the same way.
        works = works_of(1, [("and", (0, 0)), ("and", (0, 0))], [1, 2])
        self.assertEqual(parted_at(works, [("wire", 1, 0)], [("wire", 2, 0)]), [1])

    def test_an_empty_list(self):
        works = works_of(*SPARE)
        self.assertIsNone(parted_at(works, [], []))
        self.assertIsNone(parted_at(works, [("wire", 2, 0)], []))
        self.assertIsNone(parted_at(works, [], [("wire", 2, 0)]))
        self.assertEqual(parted_at(works, [("wire", 0, 0)], []), [1, 0])
        self.assertEqual(parted_at(works, [], [("wire", 0, 0)]), [1, 0])

    def test_one_list_against_none_is_the_first_test(self):
        for seed in range(60):
            works = oracle.some_works(seed)
            for fault in every_fault(works):
                self.assertEqual(parted_at(works, [fault], []), first_test(works, [fault]))

    def test_the_same_fault_may_stand_in_both_lists(self):
        works = works_of(*SMALL)
        self.assertIsNone(parted_at(works, [("wire", 2, 1)], [("wire", 2, 1)]))
        self.assertEqual(parted_at(works, [("wire", 2, 1)], [("wire", 2, 0)]), [0, 0])

    def test_against_the_plain_reckoning(self):
        told = []
        for seed in range(300):
            works = oracle.some_works(seed)
            one, other = oracle.some_faults(seed, works), oracle.some_faults(seed + 7777, works)
            with self.subTest(works=works, one=one, other=other):
                told.append(parted_at(works, one, other))
                self.assertEqual(told[-1], oracle.parted(works, one, other))
                self.assertEqual(parted_at(works, other, one), told[-1])
        self.assertGreater(told.count(None), 20)

    def test_a_new_list_and_nothing_changed(self):
        works, one, other = works_of(*SMALL), [("wire", 0, 0)], [("wire", 2, 1), ("leg", 1, 1, 0)]
        before = copy.deepcopy((works, one, other))
        told = parted_at(works, one, other)
        self.assertIs(type(told), list)
        again = list(told)
        told.clear()
        self.assertEqual(parted_at(works, one, other), again)
        self.assertEqual((works, one, other), before)

    def refused(self, works, faults, others):
        with self.subTest(), self.assertRaises(NoFault) as caught:
            parted_at(works, faults, others)
        self.assertIs(type(caught.exception), NoFault)

    def test_no_fault_in_either_list(self):
        works = works_of(*SMALL)
        for fault in NO_FAULTS:
            for well in ([], [("wire", 0, 1)]):
                self.refused(works, [fault], well)
                self.refused(works, well, [fault])
                self.refused(works, well + [fault], well)
                self.refused(works, well, well + [fault])
            self.refused(works, [fault], [fault])

    def test_two_of_one_in_either_list(self):
        works = works_of(*SMALL)
        for twice in ([("wire", 0, 0), ("wire", 0, 1)], [("leg", 1, 0, 1), ("wire", 1, 1), ("leg", 1, 0, 1)]):
            for well in ([], [("wire", 3, 1)]):
                self.refused(works, twice, well)
                self.refused(works, well, twice)


class FaultGroups(unittest.TestCase):
    def test_one_gate(self):
        self.assertEqual(fault_groups(works_of(2, [("and", (0, 1))], [2])), [
            [("wire", 0, 0), ("wire", 1, 0), ("wire", 2, 0), ("leg", 0, 0, 0), ("leg", 0, 1, 0)],
            [("wire", 0, 1), ("leg", 0, 0, 1)],
            [("wire", 1, 1), ("leg", 0, 1, 1)],
            [("wire", 2, 1)],
            [],
        ])

    def test_no_gate(self):
        self.assertEqual(fault_groups(works_of(1, [], [0])), [[("wire", 0, 0)], [("wire", 0, 1)], []])

    def test_those_that_no_row_finds_are_the_last_list(self):
        # Input 0 is read by nobody and is first in the order, yet its faults stand last.
        self.assertEqual(fault_groups(works_of(2, [], [1])), [
            [("wire", 1, 0)],
            [("wire", 1, 1)],
            [("wire", 0, 0), ("wire", 0, 1)],
        ])
        self.assertEqual(fault_groups(works_of(1, [("zero", ()), ("one", ())], [1, 2])), [
            [("wire", 1, 1)],
            [("wire", 2, 0)],
            [("wire", 0, 0), ("wire", 0, 1), ("wire", 1, 0), ("wire", 2, 1)],
        ])

    def test_a_gate_that_does_no_work(self):
        told = fault_groups(works_of(*SPARE))
        self.assertEqual(told[-1], [
            ("wire", 1, 0), ("wire", 1, 1), ("wire", 2, 0),
            ("leg", 0, 0, 0), ("leg", 0, 1, 0), ("leg", 0, 1, 1), ("leg", 1, 1, 0),
        ])

    def test_lists_in_the_order_of_their_first_ones(self):
        for seed in range(80):
            works = oracle.some_works(seed)
            order = every_fault(works)
            told = fault_groups(works)
            with self.subTest(works):
                firsts = [order.index(group[0]) for group in told[:-1]]
                self.assertEqual(firsts, sorted(firsts))
                self.assertEqual(sorted(sum(told, [])), sorted(order))
                for group in told:
                    self.assertEqual(group, sorted(group, key=order.index))

    def test_against_the_plain_reckoning(self):
        for seed in range(120):
            works = oracle.some_works(seed)
            with self.subTest(works):
                self.assertEqual(fault_groups(works), oracle.groups(works))

    def test_a_works_at_the_bounds(self):
        works = works_of(*oracle.GREAT_MIXED)
        told = fault_groups(works)
        self.assertEqual(sorted(sum(told, [])), sorted(every_fault(works)))
        for group in told[:-1]:
            self.assertIsNotNone(first_test(works, [group[0]]))
            for fault in group[1:]:
                self.assertIsNone(parted_at(works, [group[0]], [fault]))
        for fault in told[-1]:
            self.assertIsNone(first_test(works, [fault]))

    def test_new_lists_and_nothing_changed(self):
        works = works_of(*SPARE)
        before = copy.deepcopy(works)
        told = fault_groups(works)
        again = copy.deepcopy(told)
        self.assertIs(type(told), list)
        self.assertTrue(all(type(group) is list for group in told))
        self.assertTrue(all(type(fault) is tuple for group in told for fault in group))
        for group in told:
            group.clear()
        told.clear()
        self.assertEqual(fault_groups(works), again)
        self.assertEqual(works, before)


if __name__ == "__main__":
    unittest.main()
