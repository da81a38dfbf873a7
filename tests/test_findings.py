import copy
import unittest

from stuckwires import findings
from stuckwires.errors import NoFault
from stuckwires.findings import first_test
from stuckwires.works import works_of
from tests import oracle
from tests.test_faults import NO_FAULTS, SMALL

SAME = ("same",)

# The gate 0 does no work: input 0 or (input 0 and input 1) is input 0.
SPARE = (2, [("and", (0, 1)), ("or", (0, 2))], [3])


class FirstTest(unittest.TestCase):
    def test_the_first_row_in_order(self):
        works = works_of(2, [("or", (0, 1))], [2])
        self.assertEqual(first_test(works, [("wire", 2, 0)]), [0, 1])
        self.assertEqual(first_test(works, [("wire", 2, 1)]), [0, 0])
        self.assertEqual(first_test(works, [("wire", 0, 0)]), [1, 0])
        self.assertEqual(first_test(works, [("leg", 0, 1, 0)]), [0, 1])

    def test_the_last_row(self):
        works = works_of(3, [("and", (0, 1, 2))], [3])
        self.assertEqual(first_test(works, [("wire", 3, 0)]), [1, 1, 1])

    def test_several_together(self):
        works = works_of(2, [("odd", (0, 1))], [2])
        self.assertEqual(first_test(works, [("leg", 0, 0, 1), ("leg", 0, 1, 1)]), [0, 1])
        self.assertEqual(first_test(works, [("wire", 0, 1), ("wire", 1, 0)]), [0, 0])

    def test_none(self):
        self.assertIsNone(first_test(works_of(*SPARE), [("wire", 2, 0)]))
        self.assertIsNone(first_test(works_of(*SPARE), []))
        self.assertIsNone(first_test(works_of(1, [("one", ())], [0]), [("wire", 1, 0)]))

    def test_against_the_plain_reckoning(self):
        for seed in range(150):
            works = oracle.some_works(seed)
            for faults in [[fault] for fault in oracle.faults(works)] + [oracle.some_faults(seed, works)]:
                with self.subTest(works=works, faults=faults):
                    self.assertEqual(first_test(works, faults), oracle.first_row(works, faults))


class TestTold(unittest.TestCase):
    def test_the_first_row(self):
        works = works_of(2, [("or", (0, 1))], [2])
        self.assertEqual(findings.test_told(works, [("wire", 2, 0)]), ("row", [0, 1]))
        self.assertEqual(findings.test_told(works, [("wire", 0, 0), ("wire", 1, 0)]), ("row", [0, 1]))

    def test_no_faults(self):
        self.assertEqual(findings.test_told(works_of(*SPARE), []), ("paper", SAME))

    def test_a_wire_that_no_output_sees(self):
        works = works_of(2, [("and", (0, 1))], [1, 0])
        self.assertEqual(findings.test_told(works, [("wire", 2, 0)]), ("paper", SAME))

    def test_a_split_where_pairs_are_not_all_alike(self):
        self.assertEqual(findings.test_told(works_of(*SPARE), [("wire", 2, 0)]), ("paper", ("split", 0, SAME, SAME)))
        self.assertEqual(findings.test_told(works_of(*SPARE), [("leg", 0, 1, 0)]), ("paper", ("split", 0, SAME, SAME)))

    def test_each_leg_is_chosen_by_itself(self):
        # Input 0 is read twice: its two legs have unlike worths among the choices, so 1 is a right worth.
        works = works_of(1, [("odd", (0, 0))], [1])
        self.assertEqual(findings.test_told(works, [("wire", 1, 0)]), ("paper", ("split", 0, SAME, SAME)))

    def test_constants_are_known_without_a_split(self):
        works = works_of(2, [("zero", ()), ("one", ()), ("and", (0, 2)), ("choose", (3, 0, 1))], [4, 5])
        for fault in (("wire", 2, 0), ("wire", 3, 1), ("wire", 4, 0), ("leg", 3, 0, 1), ("leg", 3, 2, 0)):
            with self.subTest(fault):
                self.assertEqual(findings.test_told(works, [fault]), ("paper", SAME))

    def test_splits_go_in_the_order_of_inputs(self):
        # Input 2 alone matters, yet 0 and 1 are split ahead of it.
        works = works_of(3, [("not", (2,)), ("and", (2, 3))], [4])
        one = ("split", 2, SAME, SAME)
        two = ("split", 1, one, one)
        self.assertEqual(findings.test_told(works, [("wire", 4, 0)]), ("paper", ("split", 0, two, two)))

    def test_splits_end_where_pairs_are_alike(self):
        # With input 0 at 0 the output is 0 whatever comes, so low is not split further.
        works = works_of(2, [("not", (1,)), ("and", (0, 1, 2))], [3])
        paper = ("split", 0, SAME, ("split", 1, SAME, SAME))
        self.assertEqual(findings.test_told(works, [("wire", 3, 0)]), ("paper", paper))

    def test_every_output_must_be_alike(self):
        works = works_of(2, [("not", (0,)), ("and", (0, 2)), ("not", (1,)), ("and", (1, 4))], [1, 3, 5])
        both = [("wire", 3, 0), ("wire", 5, 0)]
        one = ("split", 1, SAME, SAME)
        self.assertEqual(findings.test_told(works, both[:1]), ("paper", ("split", 0, SAME, SAME)))
        self.assertEqual(findings.test_told(works, both), ("paper", ("split", 0, one, one)))
        self.assertEqual(findings.test_told(works, list(reversed(both))), ("paper", ("split", 0, one, one)))

    def test_stuck_inputs_and_legs_have_pairs_of_their_own(self):
        works = works_of(2, [("odd", (0, 0)), ("and", (1, 2))], [3])
        faults = [("wire", 0, 1)]
        self.assertEqual(findings.test_told(works, faults), ("paper", oracle.paper(works, faults, [None] * 2)))
        works = works_of(1, [("zero", ()), ("and", (0, 1))], [2])
        self.assertEqual(findings.test_told(works, [("wire", 0, 1)]), ("paper", SAME))
        self.assertEqual(findings.test_told(works, [("leg", 1, 1, 1)]), ("row", [1]))

    def test_against_the_plain_reckoning(self):
        papers = 0
        for seed in range(250):
            works = oracle.some_works(seed)
            for faults in [[fault] for fault in oracle.faults(works)] + [oracle.some_faults(seed, works)]:
                with self.subTest(works=works, faults=faults):
                    told = findings.test_told(works, faults)
                    row = oracle.first_row(works, faults)
                    if row is not None:
                        self.assertEqual(told, ("row", row))
                    else:
                        papers += 1
                        self.assertEqual(told, ("paper", oracle.paper(works, faults, [None] * works[0])))
                        self.assertTrue(oracle.lets_by(works, faults, told[1]))
        self.assertGreater(papers, 500)

    def test_gates_of_four_legs_that_all_see_the_fault(self):
        # Three and four legs with all four pairs each: what is reckoned leg by leg must be the whole.
        for kind in ("and", "or", "odd"):
            for count in (3, 4):
                gates = [("odd", (0, 0)), ("odd", (2, 1))] + [("odd", (3, 2))] * count
                gates += [(kind, tuple(range(4, 4 + count))), ("zero", ()), ("and", (4 + count, 5 + count))]
                works = works_of(2, gates, [6 + count, 0])
                faults = [("wire", 2, 0)]
                with self.subTest(kind=kind, count=count):
                    self.assertEqual(findings.test_told(works, faults),
                                     ("paper", oracle.paper(works, faults, [None] * 2)))

    def test_a_works_at_the_bounds(self):
        works = works_of(*oracle.GREAT_ODD)
        told = [findings.test_told(works, [fault]) for fault in oracle.faults(works)]
        for fault, answer in zip(oracle.faults(works), told):
            row = oracle.first_row(works, [fault])
            with self.subTest(fault):
                if row is not None:
                    self.assertEqual(answer, ("row", row))
                else:
                    self.assertEqual(answer[0], "paper")
                    self.assertTrue(oracle.lets_by(works, [fault], answer[1]))

    def test_kinds_of_what_is_told(self):
        works = works_of(*SPARE)
        row = findings.test_told(works, [("wire", 3, 1)])
        paper = findings.test_told(works, [("wire", 2, 0)])
        self.assertEqual([type(part) for part in row], [str, list])
        self.assertEqual([type(part) for part in paper], [str, tuple])
        self.assertIs(type(row), tuple)
        self.assertIs(type(paper), tuple)


class Refusals(unittest.TestCase):
    def refused(self, works, faults):
        for ask in (first_test, findings.test_told):
            with self.subTest(ask=ask.__name__), self.assertRaises(NoFault) as caught:
                ask(works, faults)
            self.assertIs(type(caught.exception), NoFault)

    def test_what_is_no_fault(self):
        works = works_of(*SMALL)
        for fault in NO_FAULTS:
            self.refused(works, [fault])
            self.refused(works, [("wire", 0, 0), fault])

    def test_two_of_one(self):
        works = works_of(*SMALL)
        self.refused(works, [("wire", 2, 0), ("wire", 2, 1)])
        self.refused(works, [("wire", 2, 0), ("wire", 2, 0)])
        self.refused(works, [("leg", 1, 0, 1), ("wire", 2, 0), ("leg", 1, 0, 1)])

    def test_nothing_is_changed_or_kept(self):
        for faults in ([("wire", 2, 0)], [("wire", 3, 1)]):
            works = works_of(*SPARE)
            before = copy.deepcopy((works, faults))
            row, told = first_test(works, faults), findings.test_told(works, faults)
            again = copy.deepcopy((row, told))
            self.refused(works, faults + faults)
            self.assertEqual((works, faults), before)
            if row is not None:
                row.clear()
                told[1].clear()
            self.assertEqual((first_test(works, faults), findings.test_told(works, faults)), again)


if __name__ == "__main__":
    unittest.main()
