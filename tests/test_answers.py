import copy
import random
import unittest

from stuckwires.answers import next_row, plan_depth, what_fits
from stuckwires.errors import NoRow, TooMany
from stuckwires.faults import every_fault, stuck_outputs
from stuckwires.works import every_row, outputs_at, works_of
from tests import oracle
from tests.test_faults import SMALL
from tests.test_fewest import AND, EIGHT
from tests.test_findings import SPARE

WELL = ("well",)
NO_ROWS = [[], [0], [1], [0, 0, 0], [2, 0], [0, 2], [0, -1], [-1, 1], [0, 10 ** 30], [0, 1] * 500]


def some_answers(chance, works, count):
    """Answers of the well works or of one with a fault; now and then one that nothing gives."""
    name = chance.choice([WELL] + oracle.faults(works))
    answers = []
    for row in chance.choices(oracle.rows(works), k=count):
        told = oracle.answer(works, name, row)
        if chance.random() < 0.1:
            told = [chance.randrange(2) for _ in told]
        answers.append((row, told))
    return answers


class WhatFits(unittest.TestCase):
    def asked(self, works, answers, told):
        with self.subTest(works=works, answers=answers):
            self.assertEqual(what_fits(works, answers), told)

    def test_no_answers(self):
        for works in (AND, SMALL, SPARE, EIGHT, (1, [], [0]), (1, [("zero", ())], [1])):
            works = works_of(*works)
            self.asked(works, [], [WELL] + every_fault(works))

    def test_the_well_one_first_where_it_fits(self):
        works = works_of(*AND)
        self.asked(works, [([0, 1], [0]), ([1, 0], [0]), ([1, 1], [1])], [WELL])
        self.asked(works, [([0, 0], [0]), ([0, 1], [0]), ([1, 1], [1])], [WELL, ("wire", 1, 1), ("leg", 0, 1, 1)])

    def test_the_well_one_only_where_it_fits(self):
        works = works_of(*AND)
        self.asked(works, [([1, 1], [0])], [
            ("wire", 0, 0), ("wire", 1, 0), ("wire", 2, 0), ("leg", 0, 0, 0), ("leg", 0, 1, 0),
        ])
        self.asked(works, [([0, 1], [1]), ([1, 0], [0])], [("wire", 0, 1), ("leg", 0, 0, 1)])
        self.asked(works, [([0, 0], [1])], [("wire", 2, 1)])

    def test_faults_that_no_row_finds_fit_with_the_well_one(self):
        works = works_of(*SPARE)
        answers = [(row, outputs_at(works, row)) for row in every_row(works)]
        never = [fault for fault in every_fault(works) if oracle.first_row(works, [fault]) is None]
        self.assertGreater(len(never), 3)
        self.asked(works, answers, [WELL] + never)

    def test_nothing_fits(self):
        works = works_of(*AND)
        self.asked(works, [([0, 0], [1]), ([1, 1], [0])], [])
        self.asked(works_of(1, [("one", ())], [1, 1]), [([0], [0, 1])], [])

    def test_every_output_counts_in_its_place(self):
        works = works_of(1, [("not", (0,))], [0, 1])
        self.asked(works, [([0], [0, 1])], [WELL, ("wire", 0, 0), ("wire", 1, 1), ("leg", 0, 0, 0)])
        self.asked(works, [([0], [1, 0])], [("wire", 0, 1)])
        self.asked(works, [([0], [0, 0])], [("wire", 1, 0), ("leg", 0, 0, 1)])
        self.asked(works, [([0], [1, 1])], [])

    def test_outputs_of_another_length_fit_nothing(self):
        works = works_of(*SMALL)
        for row in every_row(works):
            right = outputs_at(works, row)
            for outputs in ([], right[:1], right + [0], right + [1], right + right, right * 300):
                self.asked(works, [(row, outputs)], [])
                self.asked(works, [(row, right), (row, outputs)], [])
                self.asked(works, [(row, outputs), (row, right)], [])

    def test_outputs_that_are_no_worths_fit_nothing(self):
        works = works_of(*AND)
        for outputs in ([2], [-1], [3], [10 ** 30], [-10 ** 30]):
            for row in every_row(works):
                self.asked(works, [(row, outputs)], [])

    def test_a_row_twice(self):
        works = works_of(*AND)
        once = what_fits(works, [([0, 1], [1])])
        self.assertEqual(len(once), 3)
        self.asked(works, [([0, 1], [1]), ([0, 1], [1])], once)
        self.asked(works, [([0, 1], [1])] * 1000, once)
        self.asked(works, [([0, 1], [1]), ([0, 1], [0])], [])
        self.asked(works, [([0, 1], [0]), ([1, 1], [1]), ([0, 1], [1])], [])

    def test_the_order_of_answers_does_not_count(self):
        chance = random.Random(5)
        for seed in range(40):
            works = oracle.some_works(seed)
            answers = some_answers(chance, works, 4)
            told = what_fits(works, answers)
            chance.shuffle(answers)
            self.asked(works, answers, told)

    def test_against_the_plain_reckoning(self):
        chance = random.Random(7)
        counts = []
        for seed in range(200):
            works = oracle.some_works(seed)
            answers = some_answers(chance, works, chance.randint(0, 6))
            told = oracle.fitting(works, answers)
            counts.append(len(told))
            self.asked(works, answers, told)
        self.assertIn(0, counts)
        self.assertGreater(len(set(counts)), 20)

    def test_a_works_at_the_bounds(self):
        works = works_of(*oracle.GREAT_MIXED)
        for row in every_row(works)[::9]:
            answers = [(row, outputs_at(works, row))]
            self.asked(works, answers, oracle.fitting(works, answers))
        answers = [(row, stuck_outputs(works, [("leg", 9, 2, 1)], row)) for row in every_row(works)] * 15
        told = what_fits(works, answers)
        self.assertEqual(len(answers), 960)
        self.assertIn(("leg", 9, 2, 1), told)
        self.assertEqual(told, [fault for fault in every_fault(works)
                                if oracle.parted(works, [fault], [("leg", 9, 2, 1)]) is None])

    def test_kinds_and_new_lists_and_nothing_changed(self):
        works, answers = works_of(*SMALL), [([0, 1], [1, 0]), ([1, 1], [1, 1])]
        before = copy.deepcopy((works, answers))
        told = what_fits(works, answers)
        again = list(told)
        self.assertIs(type(told), list)
        self.assertTrue(all(type(name) is tuple for name in told))
        self.assertEqual(told[0], WELL)
        told.clear()
        self.assertEqual(what_fits(works, answers), again)
        self.assertEqual((works, answers), before)

    def test_nothing_is_kept(self):
        works, answers = works_of(*AND), [([0, 1], [1])]
        told = what_fits(works, answers)
        again = list(told)
        answers[0][0][0] = 1
        answers.append(([1, 1], [0]))
        works[1].clear()
        self.assertEqual(told, again)


class NextRow(unittest.TestCase):
    def asked(self, works, answers, row):
        with self.subTest(works=works, answers=answers):
            self.assertEqual(next_row(works, answers), row)

    def test_the_least_of_the_greatest_numbers_left(self):
        works = works_of(*AND)
        # Of the eleven that fit, [0, 0] leaves ten, [0, 1] and [1, 0] leave eight, [1, 1] leaves six.
        self.asked(works, [], [1, 1])
        # Then six fit: [0, 0] leaves five, [0, 1] and [1, 0] leave three.
        self.asked(works, [([1, 1], [1])], [0, 1])
        self.asked(works, [([1, 1], [1]), ([0, 1], [0])], [1, 0])
        self.asked(works, [([1, 1], [1]), ([0, 1], [1])], [0, 0])

    def test_the_well_one_counts(self):
        # [0] finds the wire stuck at 1 and [1] that stuck at 0: each leaves two of three, the well one being one.
        self.asked(works_of(1, [], [0]), [], [0])
        # Behind [0] answered 0, the well one and the one stuck at 0 are left.
        self.asked(works_of(1, [], [0]), [([0], [0])], [1])

    def test_the_first_of_rows_that_do_as_well(self):
        works = works_of(2, [("odd", (0, 1))], [2])
        left = [oracle.greatest_left(works, [], row) for row in every_row(works)]
        self.assertEqual(left, [left[0]] * 4)
        self.asked(works, [], [0, 0])

    def test_more_than_two_outputs_part_in_more_than_two(self):
        works = works_of(1, [("not", (0,))], [0, 1])
        self.asked(works, [], oracle.next_row(works, []))
        works = works_of(*EIGHT)
        self.asked(works, [], oracle.next_row(works, []))

    def test_none_where_no_row_parts(self):
        works = works_of(*AND)
        zeros = [("wire", 0, 0), ("wire", 1, 0), ("wire", 2, 0), ("leg", 0, 0, 0), ("leg", 0, 1, 0)]
        self.assertEqual(what_fits(works, [([1, 1], [0])]), zeros)
        self.asked(works, [([1, 1], [0])], None)
        spare = works_of(*SPARE)
        answers = [(row, outputs_at(spare, row)) for row in every_row(spare)]
        self.assertGreater(len(what_fits(spare, answers)), 1)
        self.asked(spare, answers, None)

    def test_none_where_none_or_one_fits(self):
        works = works_of(*AND)
        self.asked(works, [([0, 0], [1]), ([1, 1], [0])], None)
        self.asked(works, [([0, 0], [0, 0])], None)
        self.asked(works, [([0, 0], [])], None)
        self.assertEqual(what_fits(works, [([0, 0], [1])]), [("wire", 2, 1)])
        self.asked(works, [([0, 0], [1])], None)
        self.asked(works, [([0, 1], [0]), ([1, 0], [0]), ([1, 1], [1])], None)

    def test_against_the_plain_reckoning(self):
        chance = random.Random(8)
        told = []
        for seed in range(200):
            works = oracle.some_works(seed)
            answers = some_answers(chance, works, chance.randint(0, 4))
            told.append(oracle.next_row(works, answers))
            self.asked(works, answers, told[-1])
        self.assertGreater(told.count(None), 20)
        self.assertGreater(len(told) - told.count(None), 20)

    def test_any_number_of_inputs(self):
        for inputs in range(1, 8):
            works = works_of(inputs, [], list(range(inputs)))
            self.asked(works, [], [0] * inputs)
            answers = [([0] * inputs, [0] * inputs)]
            self.asked(works, answers, [1] * inputs)
            self.asked(works, answers + [([1] * inputs, [1] * inputs)], None)
        for works in (oracle.GREAT_MIXED, oracle.rich_works(3)):
            self.asked(works_of(*works), [], oracle.next_row(works, []))

    def test_a_new_list_and_nothing_changed(self):
        works, answers = works_of(*AND), [([1, 1], [1])]
        before = copy.deepcopy((works, answers))
        told = next_row(works, answers)
        self.assertIs(type(told), list)
        told.clear()
        self.assertEqual(next_row(works, answers), [0, 1])
        self.assertEqual((works, answers), before)


class NoRows(unittest.TestCase):
    def test_a_row_that_is_none_in_any_answer(self):
        works = works_of(*AND)
        well, wrong = ([1, 1], [1]), ([0, 0], [0, 0, 0])
        for row in NO_ROWS:
            for outputs in ([0], [1], [], [0, 0]):
                bad = (row, outputs)
                for answers in ([bad], [well, bad], [bad, well], [well, bad, well], [wrong, bad], [bad, wrong],
                                [bad] * 3):
                    for ask in (what_fits, next_row):
                        with self.subTest(ask=ask.__name__, answers=answers):
                            with self.assertRaises(NoRow) as caught:
                                ask(works, answers)
                            self.assertIs(type(caught.exception), NoRow)

    def test_what_is_refused_changes_nothing(self):
        works, answers = works_of(*AND), [([1, 1], [1]), ([1], [1])]
        before = copy.deepcopy((works, answers))
        for ask in (what_fits, next_row):
            with self.assertRaises(NoRow):
                ask(works, answers)
        self.assertEqual((works, answers), before)


def walked_depth(works):
    """The plan walked step by step for the well works and for each fault; no answers are asked about twice."""
    asked, depths = {}, []
    for name in [WELL] + every_fault(works):
        answers = []
        while True:
            if repr(answers) not in asked:
                asked[repr(answers)] = next_row(works, answers)
            row = asked[repr(answers)]
            if row is None:
                break
            answers.append((row, stuck_outputs(works, [] if name == WELL else [name], row)))
        depths.append(len(answers))
    return max(depths)


class PlanDepth(unittest.TestCase):
    def asked(self, works, depth):
        with self.subTest(works):
            self.assertEqual(plan_depth(works), depth)
            self.assertIs(type(plan_depth(works)), int)

    def test_small_works(self):
        self.asked(works_of(1, [], [0]), 2)
        self.asked(works_of(*AND), 3)
        # One row parts the constant's wire stuck at 0 from all others.
        self.asked(works_of(1, [("one", ())], [1]), 1)

    def test_more_rows_than_find_all(self):
        # Two rows find all, but to know which fault it is takes three.
        works = works_of(2, [("odd", (0, 1))], [2])
        self.asked(works, walked_depth(works))
        self.assertGreater(plan_depth(works), 2)

    def test_where_no_row_parts_anything(self):
        # A fault of an output's wire is always found by some row, so some row always parts something; but behind it
        # a plan may end.
        for works in ((1, [("zero", ())], [1]), (3, [("one", ())], [3, 3]), (2, [("zero", ()), ("one", ())], [3])):
            self.asked(works_of(*works), 1)
            self.assertIsNone(next_row(works_of(*works), [([0] * works[0], outputs_at(works, [0] * works[0]))]))

    def test_against_a_plan_walked_step_by_step(self):
        seen = set()
        for seed in range(60):
            works = oracle.some_works(seed, 3, 7)
            seen.add(works[0])
            self.asked(works, walked_depth(works))
        self.assertEqual(seen, {1, 2, 3})
        for seed in range(6):
            works = oracle.rich_works(seed, 3, 6)
            self.asked(works, walked_depth(works))
        self.asked(works_of(*EIGHT), walked_depth(works_of(*EIGHT)))

    def test_a_plan_ends_where_no_row_parts_what_fits(self):
        for seed in range(20):
            works = oracle.some_works(seed, 3, 5)
            for name in [WELL] + every_fault(works):
                answers = []
                while len(answers) <= plan_depth(works) and next_row(works, answers) is not None:
                    row = next_row(works, answers)
                    answers.append((row, oracle.answer(works, name, row)))
                left = what_fits(works, answers)
                with self.subTest(works=works, name=name):
                    self.assertLessEqual(len(answers), plan_depth(works))
                    self.assertIn(name, left)
                    for row in oracle.rows(works):
                        told = oracle.answer(works, name, row)
                        self.assertTrue(all(oracle.answer(works, other, row) == told for other in left))

    def test_against_a_plan_of_the_plain_reckoning(self):
        for seed in range(12):
            works = oracle.some_works(seed, 2, 4)
            depths = []
            for name in oracle.fitting(works, []):
                answers = []
                while oracle.next_row(works, answers) is not None:
                    row = oracle.next_row(works, answers)
                    answers.append((row, oracle.answer(works, name, row)))
                depths.append(len(answers))
            self.asked(works, max(depths))

    def test_three_inputs_and_twenty_gates(self):
        works = works_of(*oracle.rich_works(11, 3, 20))
        self.asked(works, walked_depth(works))

    def test_more_than_three_inputs(self):
        for inputs in (4, 5, 6, 7, 40, 10 ** 6):
            for works in ((inputs, [], [0]), (inputs, [("one", ())], [inputs])):
                with self.subTest(works), self.assertRaises(TooMany) as caught:
                    plan_depth(works_of(*works))
                self.assertIs(type(caught.exception), TooMany)
        with self.assertRaises(TooMany):
            plan_depth(works_of(*oracle.GREAT_ODD))

    def test_nothing_is_changed(self):
        works = works_of(*SPARE)
        before = copy.deepcopy(works)
        plan_depth(works)
        self.assertEqual(works, before)


if __name__ == "__main__":
    unittest.main()
