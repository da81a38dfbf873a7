import copy
import unittest

from stuckwires.errors import NoFault, NoRow
from stuckwires.faults import every_fault, finds, stuck_outputs, stuck_worths
from stuckwires.works import outputs_at, wire_worths, works_of
from tests import oracle

# Two inputs; wire 2 is both inputs and an output, wire 3 reads it and input 1.
SMALL = (2, [("and", (0, 1)), ("or", (2, 1))], [3, 2])

NO_FAULTS = [
    ("wire",), ("leg",), ("",), ("well",),
    ("wire", 0), ("wire", 4), ("leg", 0), ("leg", 0, 0), ("leg", 0, 1),
    ("wire", 4, 0), ("wire", 99, 1), ("wire", -1, 0), ("wire", -4, 1), ("wire", 10 ** 5000, 0),
    ("wire", 0, 2), ("wire", 0, -1), ("wire", 3, 10 ** 5000),
    ("wire", 0, 0, 0), ("wire", 0, 0, 1), ("wire", 0, 0, 0, 0),
    ("leg", 2, 0, 0), ("leg", -1, 0, 0), ("leg", -2, 0, 1), ("leg", 0, 2, 0), ("leg", 0, -1, 0), ("leg", 0, -2, 1),
    ("leg", 0, 0, 2), ("leg", 0, 0, -1), ("leg", 0, 0, 0, 0), ("leg", 0, 0, 0, 1), ("leg", 99, 99, 1),
    ("wires", 0, 0), ("WIRE", 0, 0), ("Leg", 0, 0, 0), ("", 0, 0), ("gate", 0, 0), (" wire", 0, 1), ("and", 0, 1),
    ("wire",) + (0,) * 40, ("leg",) + (1,) * 40,
]


class EveryFault(unittest.TestCase):
    def test_the_order(self):
        works = works_of(1, [("not", (0,)), ("and", (0, 1))], [2])
        self.assertEqual(every_fault(works), [
            ("wire", 0, 0), ("wire", 0, 1), ("wire", 1, 0), ("wire", 1, 1), ("wire", 2, 0), ("wire", 2, 1),
            ("leg", 0, 0, 0), ("leg", 0, 0, 1),
            ("leg", 1, 0, 0), ("leg", 1, 0, 1), ("leg", 1, 1, 0), ("leg", 1, 1, 1),
        ])

    def test_constants_and_inputs_that_nobody_reads(self):
        works = works_of(2, [("zero", ()), ("one", ())], [2])
        self.assertEqual(every_fault(works), [
            ("wire", 0, 0), ("wire", 0, 1), ("wire", 1, 0), ("wire", 1, 1),
            ("wire", 2, 0), ("wire", 2, 1), ("wire", 3, 0), ("wire", 3, 1),
        ])
        self.assertEqual(every_fault(works_of(1, [], [0])), [("wire", 0, 0), ("wire", 0, 1)])

    def test_a_wire_twice_among_the_legs_has_faults_for_each(self):
        told = every_fault(works_of(1, [("odd", (0, 0, 0, 0))], [1]))
        self.assertEqual(told[4:], [("leg", 0, leg, worth) for leg in range(4) for worth in (0, 1)])

    def test_against_the_plain_reckoning(self):
        for seed in range(100):
            works = oracle.some_works(seed)
            with self.subTest(works):
                self.assertEqual(every_fault(works), oracle.faults(works))

    def test_a_new_list(self):
        works = works_of(*SMALL)
        told = every_fault(works)
        self.assertIs(type(told), list)
        self.assertTrue(all(type(fault) is tuple for fault in told))
        told.clear()
        self.assertEqual(every_fault(works), oracle.faults(works))


class StuckWorths(unittest.TestCase):
    def test_none(self):
        works = works_of(*SMALL)
        for row in oracle.rows(works):
            self.assertEqual(stuck_worths(works, [], row), wire_worths(works, row))
            self.assertEqual(stuck_outputs(works, [], row), outputs_at(works, row))
            self.assertIs(finds(works, [], row), False)

    def test_an_input_stuck(self):
        works = works_of(*SMALL)
        self.assertEqual(stuck_worths(works, [("wire", 1, 0)], [1, 1]), [1, 0, 0, 0])
        self.assertEqual(stuck_outputs(works, [("wire", 1, 0)], [1, 1]), [0, 0])
        self.assertEqual(stuck_worths(works, [("wire", 1, 1)], [1, 0]), [1, 1, 1, 1])
        self.assertEqual(stuck_worths(works, [("wire", 1, 1)], [1, 1]), [1, 1, 1, 1])

    def test_a_gates_wire_stuck(self):
        works = works_of(*SMALL)
        self.assertEqual(stuck_worths(works, [("wire", 2, 1)], [0, 0]), [0, 0, 1, 1])
        self.assertEqual(stuck_outputs(works, [("wire", 2, 1)], [0, 0]), [1, 1])
        self.assertEqual(stuck_worths(works, [("wire", 3, 0)], [1, 1]), [1, 1, 1, 0])
        self.assertEqual(stuck_outputs(works, [("wire", 3, 0)], [1, 1]), [0, 1])

    def test_a_leg_stuck_leaves_its_wire_alone(self):
        works = works_of(*SMALL)
        self.assertEqual(stuck_worths(works, [("leg", 0, 1, 1)], [1, 0]), [1, 0, 1, 1])
        self.assertEqual(stuck_worths(works, [("leg", 1, 0, 1)], [0, 0]), [0, 0, 0, 1])
        self.assertEqual(stuck_outputs(works, [("leg", 1, 0, 1)], [0, 0]), [1, 0])
        self.assertEqual(stuck_worths(works, [("leg", 1, 1, 0)], [0, 1]), [0, 1, 0, 0])

    def test_one_of_two_legs_at_one_wire(self):
        works = works_of(1, [("odd", (0, 0)), ("choose", (0, 0, 0))], [1, 2])
        self.assertEqual(stuck_worths(works, [("leg", 0, 1, 0)], [1]), [1, 1, 1])
        self.assertEqual(stuck_worths(works, [("leg", 0, 0, 1)], [0]), [0, 1, 0])
        self.assertEqual(stuck_worths(works, [("leg", 1, 0, 0), ("leg", 1, 1, 0)], [1]), [1, 0, 1])
        self.assertEqual(stuck_worths(works, [("leg", 1, 1, 0)], [1]), [1, 0, 0])

    def test_constants_stuck(self):
        works = works_of(1, [("zero", ()), ("one", ())], [1, 2])
        self.assertEqual(stuck_outputs(works, [("wire", 1, 1), ("wire", 2, 0)], [0]), [1, 0])

    def test_an_output_that_is_an_input(self):
        works = works_of(1, [("not", (0,))], [0, 1, 0])
        self.assertEqual(stuck_outputs(works, [("wire", 0, 1)], [0]), [1, 0, 1])
        self.assertEqual(stuck_outputs(works, [("leg", 0, 0, 1)], [0]), [0, 0, 0])

    def test_several_together(self):
        works = works_of(*SMALL)
        several = [("leg", 1, 0, 0), ("wire", 2, 1), ("wire", 1, 1), ("leg", 1, 1, 0)]
        self.assertEqual(stuck_worths(works, several, [0, 0]), [0, 1, 1, 0])
        self.assertEqual(stuck_worths(works, list(reversed(several)), [0, 0]), [0, 1, 1, 0])
        self.assertEqual(stuck_outputs(works, several, [0, 0]), [0, 1])

    def test_a_legs_fault_goes_ahead_of_its_wires(self):
        works = works_of(1, [("not", (0,))], [1])
        self.assertEqual(stuck_worths(works, [("wire", 0, 1), ("leg", 0, 0, 0)], [0]), [1, 1])
        self.assertEqual(stuck_worths(works, [("leg", 0, 0, 0), ("wire", 1, 0)], [0]), [0, 0])

    def test_a_wire_and_a_leg_of_the_same_numbers_are_two(self):
        works = works_of(1, [("and", (0, 0))], [1])
        self.assertEqual(stuck_worths(works, [("wire", 0, 0), ("wire", 1, 1), ("leg", 0, 0, 1), ("leg", 0, 1, 1)], [0]),
                         [0, 1])

    def test_against_the_plain_reckoning(self):
        for seed in range(200):
            works = oracle.some_works(seed)
            for faults in [[fault] for fault in oracle.faults(works)[::3]] + [oracle.some_faults(seed, works)]:
                for row in oracle.rows(works):
                    with self.subTest(works=works, faults=faults, row=row):
                        right = oracle.outputs(works, [], row)
                        stuck = oracle.outputs(works, faults, row)
                        self.assertEqual(stuck_worths(works, faults, row), oracle.worths(works, faults, row))
                        self.assertEqual(stuck_outputs(works, faults, row), stuck)
                        self.assertIs(finds(works, faults, row), right != stuck)

    def test_all_faults_that_go_together(self):
        works = works_of(*SMALL)
        for worth in (0, 1):
            faults = [fault for fault in every_fault(works) if fault[-1] == worth]
            self.assertEqual(stuck_worths(works, faults, [1 - worth, 1 - worth]), [worth] * 4)


class Finds(unittest.TestCase):
    def test_some_output_comes_otherwise(self):
        works = works_of(*SMALL)
        self.assertIs(finds(works, [("wire", 2, 0)], [1, 1]), True)
        self.assertIs(finds(works, [("wire", 2, 0)], [0, 1]), False)
        self.assertIs(finds(works, [("leg", 1, 0, 0)], [1, 1]), False)
        self.assertIs(finds(works, [("leg", 1, 0, 1)], [1, 0]), True)

    def test_a_wire_that_no_output_sees(self):
        works = works_of(2, [("and", (0, 1))], [0])
        for row in oracle.rows(works):
            self.assertIs(finds(works, [("wire", 2, 1)], row), False)

    def test_several_may_hide_one_another(self):
        works = works_of(1, [("odd", (0, 0))], [1])
        self.assertIs(finds(works, [("leg", 0, 0, 1)], [0]), True)
        self.assertIs(finds(works, [("leg", 0, 0, 1), ("leg", 0, 1, 1)], [0]), False)


class Refusals(unittest.TestCase):
    def refused(self, error, works, faults, row):
        for ask in (stuck_worths, stuck_outputs, finds):
            with self.subTest(ask=ask.__name__), self.assertRaises(error) as caught:
                ask(works, faults, row)
            self.assertIs(type(caught.exception), error)

    def test_what_is_no_fault(self):
        works = works_of(*SMALL)
        for fault in NO_FAULTS:
            self.refused(NoFault, works, [fault], [0, 1])
            self.refused(NoFault, works, [("wire", 0, 0), fault], [0, 1])
            self.refused(NoFault, works, [fault, ("leg", 0, 0, 0)], [0, 1])

    def test_legs_that_a_gate_has_not(self):
        works = works_of(2, [("not", (0,)), ("one", ()), ("odd", (0, 1, 2, 3))], [4])
        for fault in (("leg", 0, 1, 0), ("leg", 1, 0, 0), ("leg", 1, -1, 0), ("leg", 2, 4, 1)):
            self.refused(NoFault, works, [fault], [0, 1])
        self.assertEqual(stuck_outputs(works, [("leg", 2, 3, 0)], [0, 1]), [0])

    def test_a_works_without_gates_has_no_faults_of_legs(self):
        self.refused(NoFault, works_of(1, [], [0]), [("leg", 0, 0, 0)], [0])

    def test_two_of_one_wire(self):
        works = works_of(*SMALL)
        for wire in range(4):
            self.refused(NoFault, works, [("wire", wire, 0), ("wire", wire, 1)], [0, 1])
            self.refused(NoFault, works, [("wire", wire, 1), ("leg", 0, 0, 0), ("wire", wire, 1)], [0, 1])

    def test_two_of_one_leg(self):
        works = works_of(*SMALL)
        self.refused(NoFault, works, [("leg", 1, 0, 0), ("leg", 1, 0, 1)], [0, 1])
        self.refused(NoFault, works, [("leg", 1, 1, 1), ("wire", 0, 0), ("leg", 1, 1, 1)], [0, 1])

    def test_no_row(self):
        works = works_of(*SMALL)
        for row in ([], [0], [0, 0, 0], [0, 2], [-1, 0]):
            self.refused(NoRow, works, [], row)
            self.refused(NoRow, works, [("wire", 0, 1)], row)

    def test_no_row_goes_ahead_of_no_fault(self):
        works = works_of(*SMALL)
        for row in ([], [0], [0, 0, 0], [0, 2]):
            self.refused(NoRow, works, [("wire", 9, 9)], row)
            self.refused(NoRow, works, [("wire",)], row)
            self.refused(NoRow, works, [("wire", 0, 0), ("wire", 0, 1)], row)

    def test_nothing_is_changed(self):
        works = works_of(*SMALL)
        before = copy.deepcopy(works)
        faults, row = [("wire", 0, 1), ("leg", 0, 1, 0)], [0, 1]
        told = stuck_worths(works, faults, row)
        told.clear()
        stuck_outputs(works, faults, row).clear()
        finds(works, faults, row)
        self.refused(NoFault, works, faults + [("wire", 0, 1)], row)
        self.assertEqual((works, faults, row), (before, [("wire", 0, 1), ("leg", 0, 1, 0)], [0, 1]))
        self.assertEqual(stuck_worths(works, faults, row), [1, 1, 0, 1])

    def test_told_lists_are_lists(self):
        works = works_of(2, [], [0, 1])
        row = [0, 1]
        told = stuck_worths(works, [], row)
        self.assertIs(type(told), list)
        self.assertIs(type(stuck_outputs(works, [], row)), list)
        told.append(4)
        self.assertEqual(row, [0, 1])


if __name__ == "__main__":
    unittest.main()
