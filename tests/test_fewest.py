import copy
import random
import unittest

from stuckwires.errors import NoRow, TooMany
from stuckwires.faults import every_fault
from stuckwires.fewest import fewest_rows, finds_all, need_paper, need_shows
from stuckwires.works import every_row, works_of
from tests import oracle
from tests.test_faults import NO_FAULTS, SMALL
from tests.test_findings import SPARE

AND = (2, [("and", (0, 1))], [2])

# One output for each row, so that every row is wanted.
EIGHT = (
    3,
    [("not", (0,)), ("not", (1,)), ("not", (2,))]
    + [("and", (first, second, third)) for first in (3, 0) for second in (4, 1) for third in (5, 2)],
    list(range(6, 14)),
)


def small_works():
    """Works of one, two and three inputs."""
    return [oracle.some_works(seed, 3, 7) for seed in range(150)]


class FindsAll(unittest.TestCase):
    def asked(self, works, rows, answer):
        with self.subTest(works=works, rows=rows):
            self.assertIs(finds_all(works, rows), answer)

    def test_true_and_false(self):
        works = works_of(*AND)
        self.asked(works, [[0, 1], [1, 0], [1, 1]], True)
        self.asked(works, [[1, 1], [0, 1], [1, 0]], True)
        self.asked(works, every_row(works), True)
        self.asked(works, [[0, 1], [1, 0]], False)
        self.asked(works, [[0, 0], [0, 1], [1, 1]], False)
        self.asked(works, [[0, 0]], False)

    def test_an_empty_list(self):
        self.asked(works_of(*AND), [], False)
        self.asked(works_of(1, [("one", ())], [1]), [], False)

    def test_a_row_twice(self):
        works = works_of(*AND)
        self.asked(works, [[1, 1], [0, 1], [1, 1], [1, 0], [0, 1]], True)
        self.asked(works, [[1, 1], [1, 1], [1, 1]], False)
        self.asked(works, [[0, 1]] * 1000, False)

    def test_faults_that_no_row_finds_do_not_count(self):
        self.asked(works_of(*SPARE), [[0, 1], [1, 0]], True)
        self.asked(works_of(*SPARE), [[0, 0], [1, 0], [1, 1]], False)
        self.asked(works_of(2, [], [1]), [[0, 0], [1, 1]], True)
        self.asked(works_of(2, [], [1]), [[0, 0], [1, 0]], False)
        self.asked(works_of(1, [("one", ())], [1]), [[1]], True)

    def test_against_the_plain_reckoning(self):
        chance = random.Random(3)
        answers = []
        for seed in range(150):
            works = oracle.some_works(seed, 4, 6)
            rows = oracle.rows(works)
            for count in (1, len(rows) // 2, len(rows) - 1):
                taken = chance.sample(rows, count)
                answers.append(oracle.all_found(works, taken))
                self.asked(works, taken, answers[-1])
            self.asked(works, rows, True)
        self.assertGreater(answers.count(True), 40)
        self.assertGreater(answers.count(False), 40)

    def test_a_works_at_the_bounds(self):
        works = works_of(*oracle.GREAT_MIXED)
        self.asked(works, every_row(works), True)
        self.asked(works, (every_row(works) * 16)[:1000], True)
        self.asked(works, [[0] * 6], False)

    def test_no_row(self):
        works = works_of(*AND)
        for bad in ([], [0], [0, 0, 0], [0, 2], [-1, 0], [10 ** 5000, 0]):
            for rows in ([bad], [[0, 0], bad], [bad, [1, 1]], every_row(works) + [bad], [bad] + every_row(works)):
                with self.subTest(length=len(rows)), self.assertRaises(NoRow) as caught:
                    finds_all(works, rows)
                self.assertIs(type(caught.exception), NoRow)

    def test_nothing_is_changed(self):
        works, rows = works_of(*AND), [[1, 1], [0, 1], [1, 1]]
        before = copy.deepcopy((works, rows))
        finds_all(works, rows)
        self.assertEqual((works, rows), before)


class FewestRows(unittest.TestCase):
    def test_by_hand(self):
        self.assertEqual(fewest_rows(works_of(*AND)), [[0, 1], [1, 0], [1, 1]])
        self.assertEqual(fewest_rows(works_of(1, [], [0])), [[0], [1]])
        self.assertEqual(fewest_rows(works_of(2, [("or", (0, 1))], [2])), [[0, 0], [0, 1], [1, 0]])
        self.assertEqual(fewest_rows(works_of(*SPARE)), [[0, 1], [1, 0]])

    def test_one_row_is_enough(self):
        self.assertEqual(fewest_rows(works_of(1, [("one", ())], [1])), [[0]])
        self.assertEqual(fewest_rows(works_of(3, [("zero", ())], [3])), [[0, 0, 0]])

    def test_all_rows_are_wanted(self):
        works = works_of(*EIGHT)
        self.assertEqual(fewest_rows(works), every_row(works))

    def test_the_first_one_as_lists(self):
        # Any row with input 1 at 0 and any one with it at 1 would do.
        self.assertEqual(fewest_rows(works_of(2, [], [1])), [[0, 0], [0, 1]])
        self.assertEqual(fewest_rows(works_of(3, [], [0])), [[0, 0, 0], [1, 0, 0]])
        # Both inputs told: two rows that are unlike in both, and [0, 0] goes ahead of [0, 1].
        self.assertEqual(fewest_rows(works_of(2, [], [0, 1])), [[0, 0], [1, 1]])

    def test_against_a_trial_of_all_lists(self):
        lengths = {}
        for works in small_works():
            with self.subTest(works):
                told = fewest_rows(works)
                self.assertEqual(told, oracle.fewest(works))
                self.assertEqual(told, sorted(told))
                self.assertIs(finds_all(works, told), True)
                lengths[len(told)] = works[0]
        self.assertEqual({works[0] for works in small_works()}, {1, 2, 3})
        self.assertGreaterEqual(set(lengths), {1, 2, 3, 4, 5})

    def test_new_lists_and_nothing_changed(self):
        works = works_of(*AND)
        before = copy.deepcopy(works)
        told = fewest_rows(works)
        again = copy.deepcopy(told)
        self.assertIs(type(told), list)
        self.assertTrue(all(type(row) is list for row in told))
        told[0].clear()
        told.clear()
        self.assertEqual(fewest_rows(works), again)
        self.assertEqual(works, before)

    def test_too_many(self):
        for inputs in (4, 5, 6, 7):
            for works in (works_of(inputs, [], [0]), works_of(inputs, [("one", ())], [inputs])):
                for ask in (fewest_rows, need_paper):
                    with self.subTest(inputs=inputs, ask=ask.__name__), self.assertRaises(TooMany) as caught:
                        ask(works)
                    self.assertIs(type(caught.exception), TooMany)

    def test_three_inputs_are_not_too_many(self):
        works = works_of(3, [], [0, 1, 2])
        self.assertEqual(fewest_rows(works), [[0, 0, 0], [1, 1, 1]])
        self.assertIs(need_shows(works, 1, need_paper(works)), True)


# A paper for one row over AND: its wire 2 stuck at 0 is found by [1, 1] alone, and that row does not find it at 1.
AND_PAPER = ("of", ("wire", 2, 0), [("none", ("wire", 2, 1))])


class NeedShows(unittest.TestCase):
    def asked(self, works, k, paper, answer):
        with self.subTest(works=works, k=k, paper=paper):
            self.assertIs(need_shows(works, k, paper), answer)

    def test_none(self):
        works = works_of(*AND)
        for fault in every_fault(works):
            self.asked(works, 0, ("none", fault), True)
            for k in (-10 ** 30, -2, -1, 1, 2, 3, 4, 99, 10 ** 30):
                self.asked(works, k, ("none", fault), False)

    def test_of(self):
        works = works_of(*AND)
        self.asked(works, 1, AND_PAPER, True)
        for k in (-10 ** 30, -2, -1, 0, 2, 3, 4, 99, 10 ** 30):
            self.asked(works, k, AND_PAPER, False)

    def test_of_without_papers_for_0_and_below(self):
        # With no papers within, there is nothing further down that could be refused.
        works = works_of(2, [("and", (0, 1))], [0])
        for k in (-1, 0, 1):
            self.asked(works, k, ("of", ("wire", 2, 0), []), False)
            self.asked(works, k, ("of", ("wire", 0, 0), []), False)

    def test_numbers_of_any_size(self):
        works = works_of(*AND)
        for k in (-10 ** 5000, 10 ** 5000):
            self.assertIs(need_shows(works, k, AND_PAPER), False)
            self.assertIs(need_shows(works, k, ("none", ("wire", 2, 1))), False)

    def test_two_rows_are_not_enough(self):
        works = works_of(*AND)
        paper = ("of", ("wire", 2, 0), [("of", ("wire", 0, 1), [("none", ("wire", 1, 1))])])
        self.asked(works, 2, paper, True)
        self.asked(works, 1, paper, False)
        self.asked(works, 3, paper, False)
        # The last fault is found by the row of the first: all that were taken on the way count, not the last alone.
        late = ("of", ("wire", 2, 0), [("of", ("wire", 0, 1), [("none", ("wire", 1, 0))])])
        self.asked(works, 2, late, False)
        # A row that was taken finds the fault in the middle.
        self.asked(works, 2, ("of", ("wire", 2, 0), [("of", ("wire", 0, 0), [("none", ("wire", 1, 1))])]), False)

    def test_a_paper_for_each_row_that_finds_the_fault(self):
        works = works_of(*AND)
        # [0, 0], [0, 1], [1, 0] find the wire 2 stuck at 1; none of them finds it stuck at 0.
        none = ("none", ("wire", 2, 0))
        for count in range(6):
            self.asked(works, 1, ("of", ("wire", 2, 1), [none] * count), count == 3)
            self.asked(works, 0, ("of", ("wire", 2, 1), [none] * count), False)
        bad = ("none", ("wire", 2, 1))
        for place in range(3):
            papers = [none, none, none]
            papers[place] = bad
            self.asked(works, 1, ("of", ("wire", 2, 1), papers), False)

    def test_papers_go_in_the_order_of_rows(self):
        works = works_of(*AND)
        # Behind [0, 0] no other fault is found, behind [0, 1] that of input 0, behind [1, 0] that of input 1.
        low, middle, high = ("none", ("wire", 0, 1)), ("none", ("wire", 1, 1)), ("none", ("wire", 0, 1))
        self.asked(works, 1, ("of", ("wire", 2, 1), [low, middle, high]), True)
        self.asked(works, 1, ("of", ("wire", 2, 1), [low, high, middle]), False)
        self.asked(works, 1, ("of", ("wire", 2, 1), [middle, low, high]), False)

    def test_what_is_no_fault_is_let_by_nowhere(self):
        works = works_of(*SMALL)
        inner = ("none", ("wire", 0, 0))
        for fault in NO_FAULTS:
            for k in (-1, 0, 1, 2):
                self.assertIs(need_shows(works, k, ("none", fault)), False)
                for count in range(5):
                    self.assertIs(need_shows(works, k, ("of", fault, [inner] * count)), False)
        works = works_of(*AND)
        for fault in NO_FAULTS + [("wire", 3, 0), ("leg", 1, 0, 0)]:
            self.assertIs(need_shows(works, 1, ("of", ("wire", 2, 0), [("none", fault)])), False)

    def test_a_fault_that_no_row_finds(self):
        works = works_of(*SPARE)
        for fault in (("wire", 2, 0), ("wire", 1, 0), ("leg", 1, 1, 0)):
            for k in (-1, 0, 1):
                self.asked(works, k, ("none", fault), False)
                self.asked(works, k, ("of", fault, []), False)
                self.asked(works, k, ("of", fault, [("none", ("wire", 0, 0))]), False)
        self.asked(works, 0, ("none", ("wire", 0, 0)), True)

    def test_works_of_more_than_three_inputs(self):
        works = works_of(6, [("and", (0, 1, 2, 3)), ("and", (4, 5, 6))], [7])
        paper = ("of", ("wire", 7, 0), [("of", ("wire", 0, 1), [("none", ("wire", 5, 1))])])
        self.asked(works, 2, paper, True)
        self.asked(works, 1, paper, False)
        self.asked(works, 3, paper, False)
        self.asked(works, 0, ("none", ("wire", 7, 1)), True)
        many = ("of", ("wire", 7, 1), [("none", ("wire", 7, 0))] * 63)
        self.asked(works, 1, many, True)
        self.asked(works, 1, ("of", ("wire", 7, 1), [("none", ("wire", 7, 0))] * 62), False)
        self.asked(works, 1, ("of", ("wire", 7, 1), [("none", ("wire", 7, 0))] * 64), False)

    def test_papers_within_one_another_as_deep_as_may_be(self):
        paper = ("none", ("wire", 2, 1))
        for _ in range(1900):
            paper = ("of", ("wire", 2, 0), [paper])
        for k in (0, 1, 2, 1900, 1901):
            self.assertIs(need_shows(works_of(*AND), k, paper), False)

    def test_papers_whoever_made_them(self):
        chance = random.Random(21)
        answers = []
        for works in small_works()[:100]:
            found = {fault: oracle.finders(works, fault) for fault in oracle.faults(works)}
            for k in (0, 0, 1, 1, 2, 2):
                paper = some_need(chance, found, k, chance.choice((0, 0.4)))
                answer = oracle.need_lets_by(works, k, paper)
                answers.append((k, answer))
                self.asked(works, k, paper, answer)
                if answer:
                    self.assertGreater(len(oracle.fewest(works)), k)
        for k in range(3):
            self.assertGreater(answers.count((k, True)), 10)
            self.assertGreater(answers.count((k, False)), 10)

    def test_nothing_is_changed(self):
        works, paper = works_of(*AND), copy.deepcopy(AND_PAPER)
        before = copy.deepcopy((works, paper))
        for k in (0, 1, 2):
            need_shows(works, k, paper)
        self.assertEqual((works, paper), before)


def some_need(chance, found, k, slips, taken=()):
    """A paper of need: a fault of few rows that no taken one finds, but where it slips."""
    free = [fault for fault, rows in found.items() if rows and not any(row in taken for row in rows)]
    free = sorted(free, key=lambda fault: len(found[fault]))[:4]
    if free == [] or chance.random() < slips:
        free = list(found)
    fault = chance.choice(free)
    if k == 0:
        return ("none", fault)
    return ("of", fault, [some_need(chance, found, k - 1, slips, list(taken) + [row]) for row in found[fault]])


def size(paper):
    return 1 + sum(size(inner) for inner in paper[2]) if paper[0] == "of" else 1


class NeedPaper(unittest.TestCase):
    def test_it_is_let_by_for_one_fewer_than_the_fewest_alone(self):
        for works in small_works() + [AND, SPARE, SMALL, EIGHT]:
            paper = need_paper(works)
            count = len(fewest_rows(works))
            with self.subTest(works=works, paper=paper):
                self.assertTrue(oracle.need_lets_by(works, count - 1, paper))
                for k in list(range(-3, 12)) + [-10 ** 30, 10 ** 30]:
                    self.assertIs(need_shows(works, k, paper), k == count - 1)

    def test_where_one_row_is_enough(self):
        works = works_of(1, [("one", ())], [1])
        self.assertEqual(need_paper(works), ("none", ("wire", 1, 0)))

    def test_where_every_row_is_wanted(self):
        works = works_of(*EIGHT)
        self.assertIs(need_shows(works, 7, need_paper(works)), True)
        self.assertIs(need_shows(works, 8, need_paper(works)), False)

    def test_it_stays_small(self):
        for works in small_works() + [EIGHT, works_of(3, [("odd", (0, 1, 2))], [3])]:
            with self.subTest(works):
                self.assertLess(size(need_paper(works)), 600)

    def test_kinds(self):
        works = works_of(*AND)
        paper = need_paper(works)
        while paper[0] == "of":
            self.assertEqual([type(part) for part in paper], [str, tuple, list])
            self.assertIs(type(paper), tuple)
            paper = paper[2][0]
        self.assertEqual([type(part) for part in paper], [str, tuple])
        self.assertIs(type(paper), tuple)

    def test_new_lists_and_nothing_changed(self):
        works = works_of(*AND)
        before = copy.deepcopy(works)
        told = need_paper(works)
        again = copy.deepcopy(told)
        told[2].clear()
        self.assertEqual(need_paper(works), again)
        self.assertEqual(works, before)


if __name__ == "__main__":
    unittest.main()
