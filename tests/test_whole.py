import unittest

from stuckwires import findings
from stuckwires.faults import every_fault, finds
from stuckwires.fewest import fewest_rows, finds_all, need_paper, need_shows
from stuckwires.groups import fault_groups, parted_at
from stuckwires.lesser import is_bare, is_spare, made_less
from stuckwires.papers import paper_shows
from stuckwires.works import every_row, outputs_at
from tests import oracle


class Whole(unittest.TestCase):
    """Point 4, by what the program itself tells."""

    def test_of_every_fault_a_row_or_a_paper_is_told(self):
        for seed in range(100):
            works = oracle.some_works(seed)
            for fault in every_fault(works):
                word, told = findings.test_told(works, [fault])
                found = [row for row in every_row(works) if finds(works, [fault], row)]
                with self.subTest(works=works, fault=fault):
                    if word == "row":
                        self.assertEqual(told, found[0])
                        self.assertIs(paper_shows(works, [fault], ("same",)), False)
                    else:
                        self.assertEqual((word, found), ("paper", []))
                        self.assertIs(paper_shows(works, [fault], told), True)

    def test_faults_told_alike_are_and_others_part(self):
        for seed in range(40):
            works = oracle.some_works(seed, 3, 5)
            groups = fault_groups(works)
            for number, group in enumerate(groups):
                for other, others in enumerate(groups):
                    for fault in others:
                        for one in group[:1]:
                            row = parted_at(works, [one], [fault])
                            with self.subTest(works=works, one=one, fault=fault):
                                self.assertEqual(row is None, number == other)
                                if row is not None:
                                    self.assertNotEqual(oracle.outputs(works, [one], row),
                                                        oracle.outputs(works, [fault], row))

    def test_the_told_rows_find_all_and_no_fewer_do(self):
        for seed in range(100):
            works = oracle.some_works(seed, 3, 7)
            rows = fewest_rows(works)
            with self.subTest(works):
                self.assertIs(finds_all(works, rows), True)
                self.assertIs(need_shows(works, len(rows) - 1, need_paper(works)), True)
                for place in range(len(rows)):
                    self.assertIs(finds_all(works, rows[:place] + rows[place + 1:]), False)

    def test_a_works_made_less_has_the_same_outputs_and_its_faults_can_be_found(self):
        for seed in range(60):
            works = oracle.rich_works(seed, 5, 14)
            less = made_less(works)
            with self.subTest(works):
                self.assertEqual([outputs_at(less, row) for row in every_row(less)],
                                 [outputs_at(works, row) for row in every_row(works)])
                self.assertIs(is_bare(less), True)
                for fault in every_fault(less):
                    wire = fault[1] if fault[0] == "wire" else less[1][fault[1]][1][fault[2]]
                    if fault[0] == "wire" and wire < less[0] or oracle.constant(less, wire):
                        continue
                    self.assertIs(is_spare(less, fault), False)
                    self.assertEqual(findings.test_told(less, [fault])[0], "row")


if __name__ == "__main__":
    unittest.main()
