import copy
import itertools
import random
import unittest

from stuckwires import findings
from stuckwires.errors import NoFault
from stuckwires.papers import pairs_at, paper_shows
from stuckwires.works import works_of
from tests import oracle
from tests.test_faults import NO_FAULTS, SMALL
from tests.test_findings import SPARE

SAME = ("same",)
ALIKE = [(0, 0), (1, 1)]
ALL_FOUR = [(0, 0), (0, 1), (1, 0), (1, 1)]

# What a gate tells of input pairs, written out by hand: kind, what is known, faults, the pairs of the gate's wire.
BY_HAND = [
    ("and", [None, None], [], ALIKE),
    ("and", [0, None], [], [(0, 0)]),
    ("and", [1, None], [("wire", 0, 0)], [(0, 0), (1, 0)]),
    ("and", [0, None], [("wire", 0, 1)], [(0, 0), (0, 1)]),
    ("and", [None, None], [("leg", 0, 0, 1)], [(0, 0), (0, 1), (1, 1)]),
    ("and", [1, 1, 0], [("leg", 0, 2, 1)], [(0, 1)]),
    ("and", [1, 1, 1, None], [("leg", 0, 3, 1)], [(0, 1), (1, 1)]),
    ("or", [None, None], [], ALIKE),
    ("or", [1, None], [("leg", 0, 1, 0)], [(1, 1)]),
    ("or", [0, None], [("leg", 0, 1, 0)], [(0, 0), (1, 0)]),
    ("or", [None, None], [("wire", 1, 0)], [(0, 0), (1, 0), (1, 1)]),
    ("or", [0, 1, 0], [("wire", 1, 0)], [(1, 0)]),
    ("or", [0, 0, None, 0], [("wire", 0, 1)], [(0, 1), (1, 1)]),
    ("odd", [None, None], [], ALIKE),
    ("odd", [1, 1], [("leg", 0, 0, 0)], [(0, 1)]),
    ("odd", [None, 1], [("wire", 1, 0)], [(0, 1), (1, 0)]),
    ("odd", [None, None], [("leg", 0, 0, 0)], ALL_FOUR),
    ("odd", [1, 1, 1], [("wire", 2, 0)], [(1, 0)]),
    ("odd", [1, 0, 1, None], [("wire", 3, 1)], [(0, 1), (1, 1)]),
    ("not", [None], [], ALIKE),
    ("not", [1], [], [(0, 0)]),
    ("not", [None], [("wire", 0, 1)], [(0, 0), (1, 0)]),
    ("not", [0], [("leg", 0, 0, 1)], [(1, 0)]),
    ("choose", [None, None, None], [], ALIKE),
    ("choose", [1, 0, None], [], [(0, 0)]),
    ("choose", [0, 0, 1], [], [(1, 1)]),
    ("choose", [1, 0, 1], [("leg", 0, 0, 0)], [(0, 1)]),
    ("choose", [0, 0, 1], [("leg", 0, 0, 1)], [(1, 0)]),
    ("choose", [1, None, None], [("wire", 2, 1)], ALIKE),
    ("choose", [None, 1, 0], [("leg", 0, 2, 1)], [(0, 1), (1, 1)]),
    ("choose", [None, None, None], [("leg", 0, 0, 0)], ALL_FOUR),
]


class PairsAt(unittest.TestCase):
    def test_inputs_known_and_not_known(self):
        works = works_of(3, [], [0])
        known = [0, 1, None]
        self.assertEqual(pairs_at(works, [], known, 0), [(0, 0)])
        self.assertEqual(pairs_at(works, [], known, 1), [(1, 1)])
        self.assertEqual(pairs_at(works, [], known, 2), [(0, 0), (1, 1)])

    def test_inputs_stuck(self):
        works = works_of(3, [], [0])
        known = [0, 1, None]
        zeros = [("wire", 0, 0), ("wire", 1, 0), ("wire", 2, 0)]
        ones = [("wire", 2, 1), ("wire", 1, 1), ("wire", 0, 1)]
        self.assertEqual([pairs_at(works, zeros, known, wire) for wire in range(3)],
                         [[(0, 0)], [(1, 0)], [(0, 0), (1, 0)]])
        self.assertEqual([pairs_at(works, ones, known, wire) for wire in range(3)],
                         [[(0, 1)], [(1, 1)], [(0, 1), (1, 1)]])

    def test_every_kind_by_hand(self):
        for kind, known, faults, pairs in BY_HAND:
            count = len(known)
            works = works_of(count, [(kind, tuple(range(count)))], [count])
            with self.subTest(kind=kind, known=known, faults=faults):
                self.assertEqual(pairs_at(works, faults, known, count), pairs)

    def test_constants(self):
        works = works_of(1, [("zero", ()), ("one", ())], [1])
        self.assertEqual(pairs_at(works, [], [None], 1), [(0, 0)])
        self.assertEqual(pairs_at(works, [], [None], 2), [(1, 1)])
        self.assertEqual(pairs_at(works, [("wire", 1, 1), ("wire", 2, 0)], [0], 1), [(0, 1)])
        self.assertEqual(pairs_at(works, [("wire", 1, 1), ("wire", 2, 0)], [0], 2), [(1, 0)])

    def test_a_gates_wire_stuck(self):
        works = works_of(2, [("and", (0, 1)), ("not", (2,))], [3])
        self.assertEqual(pairs_at(works, [("wire", 2, 1)], [None, None], 2), [(0, 1), (1, 1)])
        self.assertEqual(pairs_at(works, [("wire", 2, 1)], [None, None], 3), [(0, 0), (1, 0)])
        self.assertEqual(pairs_at(works, [("wire", 2, 1)], [0, None], 2), [(0, 1)])
        self.assertEqual(pairs_at(works, [("wire", 2, 1)], [None, None], 0), ALIKE)
        self.assertEqual(pairs_at(works, [("wire", 3, 0), ("wire", 0, 1)], [None, 1], 3), [(0, 0), (1, 0)])

    def test_a_leg_stuck_leaves_its_wire_alone(self):
        works = works_of(1, [("not", (0,)), ("not", (0,))], [1, 2])
        faults = [("leg", 0, 0, 1)]
        self.assertEqual(pairs_at(works, faults, [None], 0), ALIKE)
        self.assertEqual(pairs_at(works, faults, [None], 1), [(0, 0), (1, 0)])
        self.assertEqual(pairs_at(works, faults, [None], 2), ALIKE)

    def test_a_legs_fault_goes_ahead_of_its_wires(self):
        works = works_of(1, [("not", (0,))], [1])
        self.assertEqual(pairs_at(works, [("wire", 0, 1), ("leg", 0, 0, 0)], [None], 1), [(0, 1), (1, 1)])

    def test_two_legs_that_read_one_wire_are_chosen_each_by_itself(self):
        for kind, legs, pairs in (
            ("odd", (0, 0), ALIKE),
            ("odd", (0, 0, 0, 0), ALIKE),
            ("choose", (0, 0, 0), ALIKE),
        ):
            with self.subTest(kind=kind, legs=legs):
                self.assertEqual(pairs_at(works_of(1, [(kind, legs)], [1]), [], [None], 1), pairs)
        works = works_of(1, [("not", (0,)), ("and", (0, 1)), ("or", (0, 1))], [2])
        self.assertEqual(pairs_at(works, [], [None], 2), ALIKE)
        self.assertEqual(pairs_at(works, [], [None], 3), ALIKE)
        self.assertEqual(pairs_at(works, [], [1], 2), [(0, 0)])
        # If the two legs went together, the right worth would always be 0.
        works = works_of(1, [("odd", (0, 0))], [1])
        self.assertEqual(pairs_at(works, [("wire", 0, 0)], [None], 1), [(0, 0), (1, 0)])
        self.assertEqual(pairs_at(works, [("leg", 0, 0, 1)], [None], 1), ALL_FOUR)

    def test_every_kind_with_every_number_of_legs_of_all_pairs(self):
        # A leg's pairs come of its input being known or not, and of its being stuck or not.
        for kind, bounds in oracle.ANY_LEGS.items():
            for count in range(bounds[0], bounds[1] + 1):
                inputs = max(count, 1)
                works = works_of(inputs, [(kind, tuple(range(count)))], [inputs])
                for known in itertools.product((0, 1, None), repeat=inputs):
                    for stuck in itertools.product((0, 1, None), repeat=count):
                        faults = [("leg", 0, leg, worth) for leg, worth in enumerate(stuck) if worth is not None]
                        told = pairs_at(works, faults, list(known), inputs)
                        if told != sorted(oracle.pairs(works, faults, known)[inputs]):
                            self.fail(f"{kind} {known} {faults}: {told}")

    def test_against_the_plain_reckoning(self):
        chance = random.Random(5)
        for seed in range(200):
            works = oracle.some_works(seed)
            for faults in ([], oracle.some_faults(seed, works), oracle.some_faults(seed + 1000, works)):
                known = [chance.choice((0, 1, None)) for _ in range(works[0])]
                plain = oracle.pairs(works, faults, known)
                for wire in range(works[0] + len(works[1])):
                    with self.subTest(works=works, faults=faults, known=known, wire=wire):
                        self.assertEqual(pairs_at(works, faults, known, wire), sorted(plain[wire]))

    def test_a_sorted_list_of_tuples_and_a_new_one_each_time(self):
        works = works_of(2, [("odd", (0, 1)), ("not", (2,))], [3])
        faults, known = [("leg", 0, 0, 1), ("wire", 1, 0)], [None, 1]
        for wire in range(4):
            told = pairs_at(works, faults, known, wire)
            again = pairs_at(works, faults, known, wire)
            self.assertIs(type(told), list)
            self.assertTrue(all(type(pair) is tuple for pair in told))
            self.assertEqual(told, sorted(set(told)))
            told.append((7, 7))
            self.assertEqual(pairs_at(works, faults, known, wire), again)

    def test_nothing_is_changed(self):
        works = works_of(*SMALL)
        faults, known = [("wire", 0, 1), ("leg", 1, 0, 0)], [None, 0]
        before = copy.deepcopy((works, faults, known))
        for wire in range(4):
            pairs_at(works, faults, known, wire).clear()
        self.assertEqual((works, faults, known), before)


def full_paper(order):
    """The paper that splits all inputs in an order."""
    paper = SAME
    for place in reversed(order):
        paper = ("split", place, paper, paper)
    return paper


def some_paper(chance, inputs, depth):
    if depth == 0 or chance.random() < 0.2:
        return SAME
    place = chance.randrange(inputs) if chance.random() < 0.95 else chance.choice((-1, -inputs, inputs))
    return ("split", place, some_paper(chance, inputs, depth - 1), some_paper(chance, inputs, depth - 1))


class PaperShows(unittest.TestCase):
    def asked(self, works, faults, paper, answer):
        with self.subTest(works=works, faults=faults, paper=paper):
            self.assertIs(paper_shows(works, faults, paper), answer)

    def test_no_faults(self):
        self.asked(works_of(*SPARE), [], SAME, True)
        self.asked(works_of(*SPARE), [], ("split", 1, SAME, SAME), True)

    def test_same_at_the_top(self):
        works = works_of(2, [("and", (0, 1)), ("one", ())], [1, 0])
        self.asked(works, [("wire", 2, 0)], SAME, True)
        self.asked(works, [("wire", 3, 0)], SAME, True)
        self.asked(works, [("wire", 1, 0)], SAME, False)

    def test_same_too_early(self):
        works = works_of(*SPARE)
        spare = [("wire", 2, 0)]
        self.asked(works, spare, SAME, False)
        self.asked(works, spare, ("split", 1, SAME, SAME), False)
        self.asked(works, spare, ("split", 0, SAME, SAME), True)

    def test_both_branches_are_walked(self):
        # The output is 0 where input 0 is 0; else input 1 must be known.
        works = works_of(2, [("not", (1,)), ("and", (0, 1, 2))], [3])
        one = ("split", 1, SAME, SAME)
        self.asked(works, [("wire", 3, 0)], ("split", 0, SAME, one), True)
        self.asked(works, [("wire", 3, 0)], ("split", 0, one, SAME), False)
        self.asked(works, [("wire", 3, 0)], ("split", 0, one, one), True)
        self.asked(works, [("wire", 3, 0)], ("split", 0, SAME, ("split", 0, SAME, SAME)), False)
        works = works_of(2, [("not", (1,)), ("or", (0, 1, 2))], [3])
        self.asked(works, [("wire", 3, 1)], ("split", 0, one, SAME), True)
        self.asked(works, [("wire", 3, 1)], ("split", 0, SAME, one), False)

    def test_low_is_with_0_and_high_with_1(self):
        # The stuck leg is chosen only where input 0 is 1; there input 1 must be known.
        works = works_of(3, [("not", (1,)), ("and", (0, 1, 3)), ("choose", (0, 4, 2))], [5])
        faults = [("leg", 2, 1, 0)]
        one = ("split", 1, SAME, SAME)
        self.asked(works, faults, ("split", 0, SAME, one), True)
        self.asked(works, faults, ("split", 0, one, SAME), False)

    def test_every_output_is_asked(self):
        works = works_of(2, [("not", (0,)), ("and", (0, 2)), ("not", (1,)), ("and", (1, 4))], [1, 3, 5])
        both = [("wire", 3, 0), ("wire", 5, 0)]
        for order in ([0], [1]):
            self.asked(works, both, full_paper(order), False)
        self.asked(works, both[:1], full_paper([0]), True)
        self.asked(works, both[1:], full_paper([1]), True)
        self.asked(works, both[1:], full_paper([0]), False)
        self.asked(works, both, full_paper([0, 1]), True)

    def test_splits_in_another_order_than_the_inputs(self):
        works = works_of(3, [("not", (2,)), ("and", (2, 3))], [4])
        for order, answer in (([2], True), ([2, 0], True), ([1, 2], True), ([2, 1, 0], True), ([1, 0], False),
                              ([0], False), ([0, 1, 2], True)):
            self.asked(works, [("wire", 4, 0)], full_paper(order), answer)

    def test_each_branch_has_an_order_of_its_own(self):
        works = works_of(3, [("not", (2,)), ("and", (2, 3))], [4])
        paper = ("split", 0, ("split", 1, full_paper([2]), full_paper([2])), full_paper([2, 1]))
        self.asked(works, [("wire", 4, 0)], paper, True)

    def test_a_split_of_a_known_input(self):
        for order in ([0, 0], [0, 1, 0], [1, 1], [0, 1, 1]):
            self.asked(works_of(*SPARE), [("wire", 2, 0)], full_paper(order), False)
            self.asked(works_of(*SPARE), [], full_paper(order), False)
        self.asked(works_of(*SPARE), [], ("split", 0, SAME, ("split", 0, SAME, SAME)), False)
        self.asked(works_of(*SPARE), [], ("split", 0, ("split", 0, SAME, SAME), SAME), False)

    def test_a_split_of_no_input(self):
        works = works_of(*SPARE)
        for place in (-1, -2, -3, 2, 3, 4, 99, 10 ** 5000, -10 ** 5000):
            for faults in ([], [("wire", 2, 0)]):
                self.assertIs(paper_shows(works, faults, ("split", place, SAME, SAME)), False)
                self.assertIs(paper_shows(works, faults, ("split", 0, SAME, ("split", place, SAME, SAME))), False)
                self.assertIs(paper_shows(works, faults, ("split", 0, ("split", place, SAME, SAME), SAME)), False)

    def test_a_split_of_all_inputs_is_let_by_just_where_no_row_finds(self):
        for seed in range(60):
            works = oracle.some_works(seed, 3, 6)
            for faults in [[fault] for fault in oracle.faults(works)] + [oracle.some_faults(seed, works)]:
                for order in itertools.permutations(range(works[0])):
                    self.asked(works, faults, full_paper(order), oracle.first_row(works, faults) is None)

    def test_papers_whoever_made_them(self):
        chance = random.Random(11)
        answers = []
        for seed in range(250):
            works = oracle.some_works(seed, 3, 5)
            for faults in [[fault] for fault in oracle.faults(works)[::2]] + [oracle.some_faults(seed, works)]:
                paper = some_paper(chance, works[0], 3)
                answer = oracle.lets_by(works, faults, paper)
                self.asked(works, faults, paper, answer)
                answers.append((answer, oracle.first_row(works, faults) is None))
        self.assertNotIn((True, False), answers)
        for kind in ((True, True), (False, True), (False, False)):
            self.assertGreater(answers.count(kind), 100, kind)

    def test_the_paper_told_is_let_by(self):
        papers = 0
        for seed in range(120):
            works = oracle.some_works(seed)
            for faults in [[fault] for fault in oracle.faults(works)] + [oracle.some_faults(seed, works)]:
                told = findings.test_told(works, faults)
                if told[0] == "paper":
                    papers += 1
                    self.asked(works, faults, told[1], True)
        self.assertGreater(papers, 200)

    def test_a_paper_of_other_faults_is_not_let_by(self):
        works = works_of(*SPARE)
        paper = findings.test_told(works, [("wire", 2, 0)])[1]
        self.asked(works, [("wire", 2, 1)], paper, False)
        self.asked(works, [("wire", 2, 0), ("wire", 3, 0)], paper, False)

    def test_sixty_splits_within_one_another(self):
        paper = SAME
        for _ in range(60):
            paper = ("split", 0, SAME, paper)
        self.asked(works_of(6, [], [0]), [], paper, False)
        self.asked(works_of(6, [], [0]), [("wire", 1, 0)], paper, False)

    def test_a_works_at_the_bounds(self):
        works = works_of(*oracle.GREAT_ODD)
        for fault in oracle.faults(works)[::9]:
            answer = oracle.first_row(works, [fault]) is None
            self.assertIs(paper_shows(works, [fault], full_paper([5, 4, 3, 2, 1, 0])), answer)

    def test_nothing_is_changed(self):
        works, faults = works_of(*SPARE), [("wire", 2, 0)]
        before = copy.deepcopy((works, faults))
        for paper in (SAME, full_paper([0]), full_paper([1, 0]), full_paper([0, 0])):
            paper_shows(works, faults, paper)
        self.assertEqual((works, faults), before)


class Refusals(unittest.TestCase):
    def refused(self, works, faults):
        known = [None] * works[0]
        asks = [lambda wire=wire: pairs_at(works, faults, known, wire) for wire in range(works[0] + len(works[1]))]
        asks += [lambda paper=paper: paper_shows(works, faults, paper)
                 for paper in (SAME, full_paper([0]), full_paper([0, 0]), ("split", 99, SAME, SAME))]
        for ask in asks:
            with self.subTest(faults=faults), self.assertRaises(NoFault) as caught:
                ask()
            self.assertIs(type(caught.exception), NoFault)

    def test_what_is_no_fault(self):
        works = works_of(*SMALL)
        for fault in NO_FAULTS:
            self.refused(works, [fault])
            self.refused(works, [("wire", 0, 0), fault])

    def test_two_of_one(self):
        works = works_of(*SMALL)
        self.refused(works, [("wire", 2, 0), ("wire", 2, 1)])
        self.refused(works, [("wire", 0, 1), ("wire", 0, 1)])
        self.refused(works, [("leg", 1, 0, 1), ("wire", 2, 0), ("leg", 1, 0, 0)])


if __name__ == "__main__":
    unittest.main()
