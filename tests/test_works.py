import copy
import itertools
import unittest

from stuckwires.errors import NoRow, NoWorks
from stuckwires.works import every_row, outputs_at, wire_worths, works_of
from tests import oracle

# What each kind tells, row by row in the order of point 8, written out by hand.
TABLES = {
    ("and", 2): "0001",
    ("and", 3): "00000001",
    ("and", 4): "0000000000000001",
    ("or", 2): "0111",
    ("or", 3): "01111111",
    ("or", 4): "0111111111111111",
    ("odd", 2): "0110",
    ("odd", 3): "01101001",
    ("odd", 4): "0110100110010110",
    ("not", 1): "10",
    ("choose", 3): "01010011",
}
LET = {"and": (2, 3, 4), "or": (2, 3, 4), "odd": (2, 3, 4), "not": (1,), "choose": (3,), "zero": (0,), "one": (0,)}

# Three inputs, every kind, a wire twice at one gate, an output twice.
MIXED = (
    3,
    [("and", (0, 1)), ("odd", (2, 2, 3)), ("choose", (0, 4, 1)), ("not", (5,)), ("zero", ()), ("one", ()),
     ("or", (6, 7, 2, 3))],
    [9, 5, 9, 0],
)


class WorksOf(unittest.TestCase):
    def refused(self, inputs, gates, outputs):
        with self.assertRaises(NoWorks) as caught:
            works_of(inputs, gates, outputs)
        self.assertIs(type(caught.exception), NoWorks)

    def test_a_works_is_told_as_a_tuple_of_the_three(self):
        told = works_of(2, [("and", (0, 1)), ("not", (2,))], [3, 2])
        self.assertEqual(told, (2, [("and", (0, 1)), ("not", (2,))], [3, 2]))
        self.assertIs(type(told), tuple)
        self.assertIs(type(told[1]), list)
        self.assertIs(type(told[1][0]), tuple)
        self.assertIs(type(told[1][0][1]), tuple)
        self.assertIs(type(told[2]), list)

    def test_every_kind_with_every_number_of_legs_that_it_lets(self):
        for kind, counts in LET.items():
            for count in range(7):
                gates = [(kind, tuple(range(count)))]
                with self.subTest(kind=kind, count=count):
                    if count in counts:
                        self.assertEqual(works_of(6, gates, [6]), (6, gates, [6]))
                    else:
                        self.refused(6, gates, [6])

    def test_the_number_of_legs_counts_a_wire_as_often_as_it_stands(self):
        self.assertEqual(works_of(1, [("and", (0, 0, 0, 0))], [1])[1], [("and", (0, 0, 0, 0))])
        self.refused(1, [("and", (0, 0, 0, 0, 0))], [1])
        self.refused(1, [("not", (0, 0))], [1])

    def test_inputs_from_one_on(self):
        self.assertEqual(works_of(1, [], [0]), (1, [], [0]))
        self.refused(0, [("one", ())], [0])
        self.refused(-1, [("one", ()), ("one", ())], [0])
        self.refused(-3, [], [0])

    def test_other_kinds(self):
        for kind in ("", "nand", "AND", "and ", " or", "xor", "wire", "1", "odd\n"):
            with self.subTest(kind):
                self.refused(2, [(kind, (0, 1))], [0])
                self.refused(2, [(kind, ())], [0])

    def test_a_leg_reads_a_lesser_wire(self):
        for legs in ((2, 0), (0, 2), (3, 0), (0, 99), (-1, 0), (0, -1), (0, -2)):
            with self.subTest(legs):
                self.refused(2, [("and", legs)], [0])
        self.assertEqual(works_of(2, [("and", (0, 1)), ("or", (2, 0))], [3])[1][1], ("or", (2, 0)))
        self.refused(2, [("and", (0, 1)), ("or", (3, 0))], [3])
        self.refused(2, [("and", (0, 3)), ("or", (0, 1))], [3])

    def test_a_fault_in_a_later_gate_is_seen(self):
        self.refused(1, [("one", ()), ("not", (1,)), ("what", ())], [0])
        self.refused(1, [("one", ()), ("not", (1,)), ("not", ())], [0])

    def test_one_output_at_least(self):
        self.refused(1, [], [])
        self.refused(1, [("not", (0,))], [])

    def test_an_output_is_a_wire(self):
        self.assertEqual(works_of(1, [("not", (0,))], [0, 1])[2], [0, 1])
        for outputs in ([2], [-1], [0, 2], [-1, 0], [0, 1, 1000]):
            with self.subTest(outputs):
                self.refused(1, [("not", (0,))], outputs)

    def test_an_output_may_stand_twice(self):
        self.assertEqual(works_of(1, [], [0, 0]), (1, [], [0, 0]))

    def test_somewhat_beyond_the_bounds_nothing_is_refused(self):
        gates = [("not", (number,)) for number in range(40)]
        self.assertEqual(works_of(9, gates, [48]), (9, gates, [48]))

    def test_lists_told_are_new_ones(self):
        gates, outputs = [("not", (0,))], [1]
        first, second = works_of(1, gates, outputs), works_of(1, gates, outputs)
        gates.append(("one", ()))
        outputs.append(0)
        first[1].clear()
        first[2].append(7)
        self.assertEqual(second, (1, [("not", (0,))], [1]))
        self.assertEqual((gates, outputs), ([("not", (0,)), ("one", ())], [1, 0]))

    def test_lists_handed_in_stay(self):
        gates, outputs = [("not", (0,)), ("and", (0, 1))], [1, 2]
        works_of(1, gates, outputs)
        self.assertEqual((gates, outputs), ([("not", (0,)), ("and", (0, 1))], [1, 2]))
        bad = [("not", (0,)), ("what", ())]
        self.refused(1, bad, outputs)
        self.assertEqual((bad, outputs), ([("not", (0,)), ("what", ())], [1, 2]))


class Worths(unittest.TestCase):
    def test_every_kind_at_every_row(self):
        for (kind, count), table in TABLES.items():
            works = works_of(count, [(kind, tuple(range(count)))], [count])
            for row, worth in zip(itertools.product((0, 1), repeat=count), table):
                with self.subTest(kind=kind, row=row):
                    self.assertEqual(wire_worths(works, list(row)), list(row) + [int(worth)])
                    self.assertEqual(outputs_at(works, list(row)), [int(worth)])

    def test_constants(self):
        works = works_of(1, [("zero", ()), ("one", ())], [2, 1])
        self.assertEqual(wire_worths(works, [0]), [0, 0, 1])
        self.assertEqual(wire_worths(works, [1]), [1, 0, 1])
        self.assertEqual(outputs_at(works, [1]), [1, 0])

    def test_the_order_of_legs_counts_for_choose(self):
        works = works_of(3, [("choose", (2, 0, 1))], [3])
        self.assertEqual(wire_worths(works, [1, 0, 1]), [1, 0, 1, 1])
        self.assertEqual(wire_worths(works, [1, 0, 0]), [1, 0, 0, 0])
        self.assertEqual(wire_worths(works, [0, 1, 0]), [0, 1, 0, 1])

    def test_a_wire_that_stands_twice_counts_twice(self):
        works = works_of(2, [("odd", (0, 0)), ("odd", (0, 0, 1)), ("odd", (0, 0, 0)), ("and", (0, 0)), ("or", (1, 1))],
                         [2])
        self.assertEqual(wire_worths(works, [1, 0]), [1, 0, 0, 0, 1, 1, 0])
        self.assertEqual(wire_worths(works, [1, 1]), [1, 1, 0, 1, 1, 1, 1])
        self.assertEqual(wire_worths(works, [0, 1]), [0, 1, 0, 1, 0, 0, 1])

    def test_an_output_named_twice_is_told_twice(self):
        works = works_of(2, [("and", (0, 1))], [2, 0, 2, 1, 0])
        self.assertEqual(outputs_at(works, [1, 0]), [0, 1, 0, 0, 1])
        self.assertEqual(outputs_at(works, [1, 1]), [1, 1, 1, 1, 1])

    def test_a_works_without_gates(self):
        works = works_of(2, [], [1])
        self.assertEqual(wire_worths(works, [0, 1]), [0, 1])
        self.assertEqual(outputs_at(works, [0, 1]), [1])

    def test_gates_read_gates(self):
        works = works_of(*MIXED)
        self.assertEqual(wire_worths(works, [1, 1, 0]), [1, 1, 0, 1, 1, 1, 0, 0, 1, 1])
        self.assertEqual(wire_worths(works, [0, 0, 0]), [0, 0, 0, 0, 0, 0, 1, 0, 1, 1])
        self.assertEqual(outputs_at(works, [1, 1, 0]), [1, 1, 1, 1])

    def test_against_the_plain_reckoning(self):
        for seed in range(150):
            works = oracle.some_works(seed)
            works_of(*works)
            for row in oracle.rows(works):
                with self.subTest(works=works, row=row):
                    self.assertEqual(wire_worths(works, row), oracle.worths(works, [], row))
                    self.assertEqual(outputs_at(works, row), oracle.outputs(works, [], row))

    def test_no_row(self):
        works = works_of(*MIXED)
        for row in ([], [0], [0, 1], [0, 1, 0, 1], [0] * 1000, [2, 0, 0], [0, 0, 2], [-1, 0, 0], [0, 10 ** 30, 1],
                    [0, -10 ** 5000, 1]):
            for ask in (wire_worths, outputs_at):
                with self.subTest(ask=ask.__name__, length=len(row)), self.assertRaises(NoRow) as caught:
                    ask(works, row)
                self.assertIs(type(caught.exception), NoRow)

    def test_no_row_for_one_input(self):
        works = works_of(1, [], [0])
        for row in ([], [2], [-1], [0, 0], [0, 2]):
            for ask in (wire_worths, outputs_at):
                with self.subTest(ask=ask.__name__, row=row), self.assertRaises(NoRow):
                    ask(works, row)

    def test_nothing_is_changed_or_kept(self):
        works = works_of(2, [], [0, 1])
        row = [0, 1]
        told, outputs = wire_worths(works, row), outputs_at(works, row)
        self.assertIs(type(told), list)
        self.assertIs(type(outputs), list)
        told.append(5)
        outputs.append(6)
        self.assertEqual((works, row), ((2, [], [0, 1]), [0, 1]))
        row[0] = 1
        self.assertEqual((told, outputs), ([0, 1, 5], [0, 1, 6]))
        self.assertEqual(wire_worths(works, [0, 1]), [0, 1])
        self.assertEqual(outputs_at(works, [0, 1]), [0, 1])

    def test_mixed_works_stays(self):
        works = works_of(*MIXED)
        before = copy.deepcopy(works)
        for row in every_row(works):
            wire_worths(works, row)
            outputs_at(works, row)
        self.assertEqual(works, before)


class EveryRow(unittest.TestCase):
    def test_in_order_as_lists(self):
        self.assertEqual(every_row(works_of(1, [], [0])), [[0], [1]])
        self.assertEqual(every_row(works_of(2, [("one", ())], [2])), [[0, 0], [0, 1], [1, 0], [1, 1]])
        self.assertEqual(
            every_row(works_of(3, [], [0])),
            [[0, 0, 0], [0, 0, 1], [0, 1, 0], [0, 1, 1], [1, 0, 0], [1, 0, 1], [1, 1, 0], [1, 1, 1]],
        )

    def test_all_of_them(self):
        for inputs in range(1, 9):
            with self.subTest(inputs):
                told = every_row(works_of(inputs, [], [0]))
                self.assertEqual(told, [list(row) for row in itertools.product((0, 1), repeat=inputs)])
                self.assertIs(type(told), list)
                self.assertTrue(all(type(row) is list for row in told))

    def test_each_is_a_list_of_its_own(self):
        works = works_of(3, [], [0])
        told = every_row(works)
        self.assertEqual(len({id(row) for row in told}), 8)
        for row in told:
            row.append(9)
        told.clear()
        self.assertEqual(every_row(works), oracle.rows(works))


if __name__ == "__main__":
    unittest.main()
