import copy
import unittest

from stuckwires import findings
from stuckwires.answers import next_row, plan_depth, what_fits
from stuckwires.desk import Desk
from stuckwires.errors import NoFault
from stuckwires.faults import every_fault, finds, stuck_outputs, stuck_worths
from stuckwires.fewest import fewest_rows, finds_all, need_paper, need_shows
from stuckwires.groups import fault_groups, parted_at
from stuckwires.lesser import is_bare, is_spare, made_less
from stuckwires.papers import pairs_at, paper_shows
from stuckwires.texts import read_works, show_works
from stuckwires.works import every_row, outputs_at, wire_worths, works_of
from tests import oracle
from tests.test_faults import NO_FAULTS, SMALL
from tests.test_fewest import AND, EIGHT
from tests.test_findings import SPARE

# Twenty gates that all do some work; one leg may read a constant 1 and another a constant 0.
NOTS = [("not", (wire % 3,)) for wire in range(18)]
TWENTY = (6, [("and", (0, 0, 3)), ("or", (4, 4, 5))] + NOTS, list(range(6, 26)))
TWENTY_OF_THREE = (3, [("and", (0, 0, 1)), ("or", (1, 1, 2))] + NOTS, list(range(3, 23)))

BARE = [
    (1, [], [0]),
    (4, [], [2]),
    (2, [], [0, 0, 1]),
    AND,
    EIGHT,
    (1, [("not", (0,))], [1]),
    (1, [("not", (0,)), ("not", (0,))], [1, 2]),
    (1, [("not", (0,)), ("not", (1,))], [2]),
    (3, [("choose", (0, 1, 2))], [3]),
    (4, [("odd", (0, 1, 2, 3))], [4]),
    (3, [("odd", (0, 0, 0))], [3]),
    (3, [("and", (0, 2))], [3]),
    # Constants, and legs that read them, are not asked whether they are spare.
    (1, [("zero", ())], [1]),
    (2, [("one", ())], [2, 2]),
    (1, [("zero", ()), ("one", ()), ("zero", ())], [1, 2, 3]),
    (1, [("one", ()), ("and", (0, 1))], [2]),
    (1, [("one", ()), ("odd", (0, 1))], [2]),
    (2, [("zero", ()), ("choose", (0, 1, 2))], [3]),
    (2, [("zero", ()), ("one", ()), ("or", (0, 2, 1, 2))], [4, 3]),
]

# Why each is not bare, and the works.
NOT_BARE = [
    ("a gate that nobody reads", (1, [("not", (0,))], [0])),
    ("the last gate is not read, the first is", (1, [("not", (0,)), ("not", (0,))], [1])),
    ("a gate that only an unread one reads", (1, [("not", (0,)), ("not", (1,))], [0])),
    ("a constant that nobody reads", (1, [("zero", ())], [0])),
    ("a constant that nobody reads behind another", (1, [("one", ()), ("one", ())], [1])),
    ("a spare wire, no spare leg", (1, [("odd", (0, 0))], [1])),
    ("a spare wire at 1 alone", (1, [("odd", (0, 0)), ("not", (1,))], [2])),
    ("a spare leg, no spare wire", (1, [("and", (0, 0))], [1])),
    ("a spare leg at 0 alone", (1, [("or", (0, 0))], [1])),
    ("a spare leg of choose", (2, [("choose", (0, 0, 1))], [2])),
    ("a gate whose constant leg alone makes it one", (1, [("one", ()), ("not", (1,))], [2])),
    ("and of a zero", (1, [("zero", ()), ("and", (0, 1))], [2])),
    ("a gate that does no work", SPARE),
    ("a bit of each", SMALL),
    ("odd of four alike", (1, [("odd", (0, 0, 0, 0))], [1])),
]


class IsSpare(unittest.TestCase):
    def asked(self, works, fault, answer):
        with self.subTest(works=works, fault=fault):
            self.assertIs(is_spare(works_of(*works), fault), answer)

    def test_wires_at_0_and_at_1(self):
        self.asked(SPARE, ("wire", 2, 0), True)
        self.asked(SPARE, ("wire", 2, 1), False)
        self.asked((1, [("odd", (0, 0)), ("not", (1,))], [2]), ("wire", 2, 1), True)
        self.asked((1, [("odd", (0, 0)), ("not", (1,))], [2]), ("wire", 2, 0), False)
        self.asked(AND, ("wire", 2, 0), False)
        self.asked(AND, ("wire", 2, 1), False)

    def test_legs_at_0_and_at_1(self):
        self.asked((1, [("and", (0, 0))], [1]), ("leg", 0, 0, 1), True)
        self.asked((1, [("and", (0, 0))], [1]), ("leg", 0, 1, 1), True)
        self.asked((1, [("and", (0, 0))], [1]), ("leg", 0, 0, 0), False)
        self.asked((1, [("or", (0, 0))], [1]), ("leg", 0, 1, 0), True)
        self.asked((1, [("or", (0, 0))], [1]), ("leg", 0, 1, 1), False)
        self.asked((2, [("choose", (0, 0, 1))], [2]), ("leg", 0, 1, 1), True)
        self.asked((2, [("choose", (0, 0, 1))], [2]), ("leg", 0, 1, 0), False)

    def test_a_wire_of_an_input(self):
        self.asked((2, [], [1]), ("wire", 0, 0), True)
        self.asked((2, [], [1]), ("wire", 0, 1), True)
        self.asked((2, [], [1]), ("wire", 1, 0), False)
        self.asked((2, [], [1]), ("wire", 1, 1), False)
        self.asked(SPARE, ("wire", 1, 1), True)

    def test_a_gate_that_nobody_reads(self):
        works = (1, [("not", (0,))], [0])
        for worth in (0, 1):
            self.asked(works, ("wire", 1, worth), True)
            self.asked(works, ("leg", 0, 0, worth), True)

    def test_wires_of_constants(self):
        for kind in ("zero", "one"):
            for worth in (0, 1):
                self.asked((1, [(kind, ())], [1]), ("wire", 1, worth), False)
                self.asked((1, [(kind, ())], [0]), ("wire", 1, worth), False)

    def test_legs_that_read_constants(self):
        for kind in ("zero", "one"):
            for worth in (0, 1):
                for works in ((1, [(kind, ()), ("or", (0, 1))], [2]), (1, [(kind, ()), ("and", (0, 1))], [0])):
                    self.asked(works, ("leg", 1, 1, worth), False)
        # The other leg of the same gate is asked.
        self.asked((1, [("zero", ()), ("and", (0, 1))], [2]), ("leg", 1, 0, 0), True)
        self.asked((1, [("zero", ()), ("and", (0, 1))], [2]), ("leg", 1, 0, 1), True)

    def test_a_gate_that_reads_constants_is_none(self):
        works = (1, [("one", ()), ("not", (1,)), ("or", (0, 2))], [3])
        self.asked(works, ("wire", 2, 0), True)
        self.asked(works, ("wire", 2, 1), False)
        self.asked(works, ("leg", 2, 1, 0), True)

    def test_against_the_plain_reckoning(self):
        told = []
        for seed in range(150):
            works = oracle.some_works(seed)
            for fault in oracle.faults(works):
                answer = oracle.spare(works, fault)
                told.append(answer)
                self.asked(works, fault, answer)
        self.assertGreater(told.count(True), 100)
        self.assertGreater(told.count(False), 100)

    def test_no_fault(self):
        for works in (SMALL, (2, [("zero", ()), ("or", (0, 2))], [3])):
            works = works_of(*works)
            for fault in NO_FAULTS + [("wire", 5, 0), ("leg", 1, 4, 0), ("wire", 2, 2), ("leg", 1, 1, 2)]:
                with self.subTest(works=works, fault=fault), self.assertRaises(NoFault) as caught:
                    is_spare(works, fault)
                self.assertIs(type(caught.exception), NoFault)

    def test_nothing_is_changed(self):
        works = works_of(*SPARE)
        before = copy.deepcopy(works)
        is_spare(works, ("wire", 2, 0))
        self.assertEqual(works, before)


class IsBare(unittest.TestCase):
    def test_bare_ones(self):
        for works in BARE:
            with self.subTest(works):
                self.assertIs(is_bare(works_of(*works)), True)
                self.assertTrue(oracle.bare(works))

    def test_others(self):
        for why, works in NOT_BARE:
            with self.subTest(why):
                self.assertIs(is_bare(works_of(*works)), False)
                self.assertFalse(oracle.bare(works))

    def test_inputs_that_nobody_reads_do_no_harm(self):
        for works in BARE:
            inputs, gates, outputs = works
            more = [wire if wire < inputs else wire + 2 for wire in range(inputs + len(gates))]
            wider = [(kind, tuple(more[leg] for leg in legs)) for kind, legs in gates]
            with self.subTest(works):
                self.assertIs(is_bare(works_of(inputs + 2, wider, [more[wire] for wire in outputs])), True)

    def test_against_the_plain_reckoning(self):
        told = []
        for seed in range(300):
            works = oracle.some_works(seed, 4, 4)
            told.append(oracle.bare(works))
            with self.subTest(works):
                self.assertIs(is_bare(works), told[-1])
        self.assertGreater(told.count(True), 20)
        self.assertGreater(told.count(False), 20)

    def test_works_at_the_bounds(self):
        self.assertIs(is_bare(works_of(*oracle.GREAT_ODD)), oracle.bare(oracle.GREAT_ODD))
        self.assertIs(is_bare(works_of(*TWENTY)), False)
        self.assertIs(is_bare(works_of(6, NOTS, list(range(6, 24)))), True)

    def test_nothing_is_changed(self):
        works = works_of(*SPARE)
        before = copy.deepcopy(works)
        is_bare(works)
        self.assertEqual(works, before)


class MadeLess(unittest.TestCase):
    def judged(self, works):
        works = works_of(*works)
        before = copy.deepcopy(works)
        less = made_less(works)
        with self.subTest(works=works, less=less):
            self.assertEqual(works, before)
            self.assertEqual(works_of(*less), less)
            self.assertTrue(oracle.bare(less))
            self.assertIs(is_bare(less), True)
            self.assertEqual(less[0], works[0])
            for row in oracle.rows(works):
                self.assertEqual(oracle.outputs(less, [], row), oracle.outputs(works, [], row))
            self.assertLessEqual(len(oracle.worker_gates(less)), len(oracle.worker_gates(works)))
            self.assertLessEqual(len(less[1]), len(oracle.worker_gates(works)) + 2)
            self.kinds(less)
        return less

    def kinds(self, less):
        self.assertEqual([type(part) for part in less], [int, list, list])
        self.assertIs(type(less), tuple)
        for body in less[1]:
            self.assertIs(type(body), tuple)
            self.assertEqual([type(part) for part in body], [str, tuple])
            self.assertTrue(all(type(leg) is int for leg in body[1]))
        self.assertTrue(all(type(wire) is int for wire in less[2]))

    def test_a_gate_that_does_no_work(self):
        less = self.judged(SPARE)
        self.assertNotIn("and", [kind for kind, _ in less[1]])

    def test_gates_that_nobody_reads(self):
        self.assertEqual(self.judged((1, [("not", (0,))], [0])), (1, [], [0]))
        self.assertEqual(self.judged((1, [("not", (0,)), ("not", (1,))], [0])), (1, [], [0]))
        self.assertEqual(self.judged((1, [("zero", ()), ("not", (0,))], [2])), (1, [("not", (0,))], [1]))

    def test_outputs_that_never_change(self):
        self.assertEqual(self.judged((1, [("odd", (0, 0))], [1])), (1, [("zero", ())], [1]))
        self.assertEqual(self.judged((2, [("not", (0,)), ("or", (0, 2))], [3, 1])), (2, [("one", ())], [2, 1]))

    def test_each_that_is_not_bare(self):
        for _, works in NOT_BARE:
            self.judged(works)

    def test_works_that_are_bare_already(self):
        for works in BARE:
            less = self.judged(works)
            with self.subTest(works):
                self.assertEqual(oracle.worker_gates(less), oracle.worker_gates(works))
                self.assertLessEqual(len(less[1]), len(works[1]))
                if len(oracle.worker_gates(works)) == len(works[1]):
                    self.assertEqual(less, works)

    def test_what_is_made_less_stays_so(self):
        for seed in range(60):
            less = made_less(oracle.rich_works(seed))
            self.assertEqual(self.judged(less), less)

    def test_outputs_keep_their_number_and_order(self):
        works = (2, [("and", (0, 1)), ("odd", (0, 0)), ("or", (0, 0))], [4, 1, 3, 2, 4, 3, 0])
        self.assertEqual(len(self.judged(works)[2]), 7)
        self.assertEqual(len(self.judged((2, works[1], [4, 3] * 500))[2]), 1000)

    def test_small_works_of_all_kinds(self):
        for seed in range(300):
            self.judged(oracle.some_works(seed, 6, 20))

    def test_one_spare_that_comes_of_another(self):
        for seed in range(200):
            self.judged(oracle.rich_works(seed, 4, 9))

    def test_works_at_the_bounds(self):
        for seed in range(12):
            self.judged(oracle.rich_works(seed))
        self.judged(oracle.GREAT_ODD)
        self.judged(oracle.GREAT_MIXED)

    def test_two_constants_more_than_twenty_gates(self):
        for works in (TWENTY, TWENTY_OF_THREE):
            less = self.judged(works)
            self.assertEqual(len(less[1]), 22)
            self.assertEqual(sorted(set(kind for kind, _ in less[1]) & {"zero", "one"}), ["one", "zero"])

    def test_new_lists_and_nothing_kept(self):
        works = works_of(*AND)
        told = made_less(works)
        told[1].clear()
        told[2].append(7)
        self.assertEqual(works, AND)
        self.assertEqual(made_less(works), AND)
        told = made_less(works)
        works[1].clear()
        works[2].clear()
        self.assertEqual(told, AND)


class HandedInAgain(unittest.TestCase):
    """A works of two constants and twenty other gates is taken everywhere."""

    def setUp(self):
        self.works = works_of(*made_less(works_of(*TWENTY)))
        self.small = made_less(works_of(*TWENTY_OF_THREE))

    def test_works_and_faults(self):
        row = [1, 0, 1, 1, 0, 0]
        self.assertEqual(len(every_row(self.works)), 64)
        self.assertEqual(wire_worths(self.works, row), oracle.worths(self.works, [], row))
        self.assertEqual(outputs_at(self.works, row), oracle.outputs(TWENTY, [], row))
        self.assertEqual(every_fault(self.works), oracle.faults(self.works))
        faults = [("wire", 27, 1), ("leg", 21, 0, 1)]
        self.assertEqual(stuck_worths(self.works, faults, row), oracle.worths(self.works, faults, row))
        self.assertEqual(stuck_outputs(self.works, faults, row), oracle.outputs(self.works, faults, row))
        self.assertIs(finds(self.works, [], row), False)

    def test_findings_papers_and_groups(self):
        for fault in every_fault(self.works):
            word, told = findings.test_told(self.works, [fault])
            self.assertEqual(findings.first_test(self.works, [fault]), oracle.first_row(self.works, [fault]))
            if word == "paper":
                self.assertIs(paper_shows(self.works, [fault], told), True)
        self.assertEqual(pairs_at(self.works, [("wire", 27, 1)], [None] * 6, 27), [(0, 1), (1, 1)])
        self.assertEqual(sum(fault_groups(self.works), [])[:2], [("wire", 0, 0), ("wire", 0, 1)])
        self.assertEqual(parted_at(self.works, [("wire", 27, 1)], []), oracle.first_row(self.works, [("wire", 27, 1)]))

    def test_answers_and_fewest(self):
        self.assertIs(finds_all(self.works, every_row(self.works)), True)
        self.assertIs(finds_all(self.works, []), False)
        self.assertEqual(len(what_fits(self.works, [])), 1 + len(every_fault(self.works)))
        self.assertEqual(next_row(self.works, []), oracle.next_row(self.works, []))
        self.assertEqual(fewest_rows(self.small), oracle.fewest(self.small))
        paper = need_paper(self.small)
        self.assertIs(need_shows(self.small, len(fewest_rows(self.small)) - 1, paper), True)
        self.assertGreater(plan_depth(self.small), 1)

    def test_lesser_texts_and_desk(self):
        self.assertIs(is_bare(self.works), True)
        self.assertIs(is_spare(self.works, ("wire", 6, 0)), False)
        self.assertEqual(made_less(self.works), self.works)
        text = show_works(self.works)
        self.assertEqual(read_works(text), self.works)
        desk = Desk()
        for row in text.split("\n"):
            desk.say("put " + row)
        self.assertEqual(desk.say("bare"), "yes")
        self.assertEqual(desk.say("less"), "gates 22 to 22")


if __name__ == "__main__":
    unittest.main()
