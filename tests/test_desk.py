import random
import unittest

from stuckwires.answers import next_row, what_fits
from stuckwires.desk import Desk
from stuckwires.errors import NoFault, NoOrder, NoRow, NoText, NoWorks, TooMany
from stuckwires.fewest import fewest_rows
from stuckwires.lesser import is_bare, made_less
from stuckwires.texts import read_works, show_fault, show_works
from stuckwires.works import outputs_at, works_of
from tests import oracle
from tests.test_faults import SMALL
from tests.test_fewest import AND, EIGHT
from tests.test_findings import SPARE
from tests.test_lesser import BARE, NOT_BARE

FOUR = (4, [("odd", (0, 1, 2, 3))], [4])
# Orders that need a works, one for each word; all of them are good where it has two inputs and a gate.
OF_A_WORKS = ["run 01", "test wire 0 1", "alike wire 0 0, leg 0 0 0", "fewest", "bare", "less", "seen 01 0", "next"]


class Asked(unittest.TestCase):
    def desk_of(self, works):
        return self.desk_with(show_works(works_of(*works)).split("\n"))

    def desk_with(self, rows):
        desk = Desk()
        for row in rows:
            desk.say("put " + row)
        return desk

    def said(self, desk, *pairs):
        for row, answer in pairs:
            with self.subTest(row):
                told = desk.say(row)
                self.assertEqual(told, answer)
                self.assertIs(type(told), str)

    def refused(self, desk, row, error):
        with self.subTest(repr(row)[:80]), self.assertRaises(error) as caught:
            desk.say(row)
        self.assertIs(type(caught.exception), error)


class PutAndClear(Asked):
    def test_rows_are_counted(self):
        self.said(Desk(), ("put in 1", "rows 1"), ("put not 0", "rows 2"), ("put out 1", "rows 3"), ("run 0", "1"),
                  ("put not 0", "rows 4"))

    def test_a_row_of_no_signs(self):
        desk = Desk()
        self.said(desk, ("put ", "rows 1"), ("put ", "rows 2"))
        self.refused(desk, "bare", NoText)

    def test_any_text_without_a_line_feed(self):
        desk = Desk()
        rows = ["put put", "put clear", "put  ", "put   in 1 ", "put ~!@#,;", "put put in 1", "put " + "x" * 3990,
                "put \t"]
        for number, row in enumerate(rows, start=1):
            self.said(desk, (row, f"rows {number}"))

    def test_rows_are_put_behind_those_so_far(self):
        desk = Desk()
        self.said(desk, ("put in 2", "rows 1"), ("put zero", "rows 2"), ("put and 0 1", "rows 3"),
                  ("put out 3 2", "rows 4"),
                  ("run 11", "10"))
        self.said(desk, ("put out 0", "rows 5"))
        self.refused(desk, "run 11", NoText)

    def test_a_row_is_kept_as_it_stands(self):
        self.refused(self.desk_with(["in 1", " out 0"]), "bare", NoText)
        self.refused(self.desk_with(["in 1", "out 0 "]), "bare", NoText)
        self.refused(self.desk_with(["in 1", "out 0", ""]), "bare", NoText)
        self.refused(self.desk_with(["", "in 1", "out 0"]), "bare", NoText)
        self.said(self.desk_with(["in 1", "out 0"]), ("bare", "yes"))

    def test_clear(self):
        desk = self.desk_of(AND)
        self.said(desk, ("clear", "rows 0"))
        self.refused(desk, "run 11", NoText)
        self.said(desk, ("clear", "rows 0"), ("put in 1", "rows 1"), ("put out 0 0", "rows 2"), ("run 1", "11"))

    def test_many_rows(self):
        desk = Desk()
        for number in range(1, 1001):
            self.assertEqual(desk.say("put zero"), f"rows {number}")


class OfTheWorks(Asked):
    def test_run(self):
        self.said(self.desk_of(AND), ("run 00", "0"), ("run 01", "0"), ("run 10", "0"), ("run 11", "1"))
        self.said(self.desk_of(SMALL), ("run 01", "10"), ("run 11", "11"), ("run 10", "00"))
        self.said(self.desk_of((1, [], [0] * 30)), ("run 1", "1" * 30), ("run 0", "0" * 30))

    def test_run_of_any_works(self):
        for seed in range(40):
            works = oracle.some_works(seed, 6, 20)
            desk = self.desk_of(works)
            for row in oracle.rows(works):
                figures = "".join(str(worth) for worth in row)
                told = "".join(str(worth) for worth in oracle.outputs(works, [], row))
                self.said(desk, ("run " + figures, told))

    def test_test(self):
        self.said(self.desk_of(SPARE), ("test wire 0 0", "10"), ("test wire 2 0", "never"), ("test leg 1 0 1", "00"),
                  ("test leg 0 1 1", "never"), ("test wire 3 1", "00"))
        for seed in range(30):
            works = oracle.some_works(seed)
            desk = self.desk_of(works)
            for fault in oracle.faults(works):
                row = oracle.first_row(works, [fault])
                told = "never" if row is None else "".join(str(worth) for worth in row)
                self.said(desk, ("test " + show_fault(fault), told))

    def test_alike(self):
        self.said(self.desk_of(AND), ("alike wire 0 0, wire 1 0", "yes"), ("alike wire 0 1, wire 1 1", "01"),
                  ("alike leg 0 0 0, wire 2 0", "yes"), ("alike wire 2 1, leg 0 0 1", "00"),
                  ("alike wire 0 0, wire 0 0", "yes"), ("alike wire 0 0, wire 0 1", "01"))
        chance = random.Random(3)
        for seed in range(60):
            works = oracle.some_works(seed)
            one, other = chance.choice(oracle.faults(works)), chance.choice(oracle.faults(works))
            row = oracle.parted(works, [one], [other])
            told = "yes" if row is None else "".join(str(worth) for worth in row)
            self.said(self.desk_of(works), (f"alike {show_fault(one)}, {show_fault(other)}", told))

    def test_fewest(self):
        self.said(self.desk_of(AND), ("fewest", "3"))
        self.said(self.desk_of(SPARE), ("fewest", "2"))
        self.said(self.desk_of(EIGHT), ("fewest", "8"))
        self.said(self.desk_of((1, [("one", ())], [1])), ("fewest", "1"))
        for seed in range(20):
            works = oracle.some_works(seed, 3, 7)
            self.said(self.desk_of(works), ("fewest", str(len(fewest_rows(works)))))

    def test_bare(self):
        for works in BARE:
            self.said(self.desk_of(works), ("bare", "yes"))
        for _, works in NOT_BARE:
            self.said(self.desk_of(works), ("bare", "no"))


class Less(Asked):
    def test_gates_are_counted_with_constants(self):
        self.said(self.desk_of((1, [("not", (0,)), ("not", (1,)), ("zero", ())], [0])), ("less", "gates 3 to 0"))
        self.said(self.desk_of((1, [("odd", (0, 0))], [1])), ("less", "gates 1 to 1"))
        self.said(self.desk_of(AND), ("less", "gates 1 to 1"))
        self.said(self.desk_of((1, [], [0])), ("less", "gates 0 to 0"))

    def test_the_rows_of_the_less_works_stand_in_their_place(self):
        desk = self.desk_of((1, [("not", (0,)), ("not", (1,))], [0]))
        self.said(desk, ("less", "gates 2 to 0"), ("put out 0", "rows 3"))
        self.refused(desk, "bare", NoText)
        desk = self.desk_of((1, [("odd", (0, 0))], [1]))
        self.said(desk, ("less", "gates 1 to 1"), ("bare", "yes"), ("test wire 1 0", "never"), ("test wire 1 1", "0"))
        self.refused(desk, "test leg 0 0 0", NoFault)

    def test_how_many_rows_there_are_then(self):
        for seed in range(30):
            works = oracle.some_works(seed, 6, 12)
            less = made_less(works)
            desk = self.desk_of(works)
            self.said(desk, ("less", f"gates {len(works[1])} to {len(less[1])}"), ("bare", "yes"),
                      ("less", f"gates {len(less[1])} to {len(less[1])}"), ("put x", f"rows {len(less[1]) + 3}"))

    def test_the_outputs_stay(self):
        for seed in range(20):
            works = oracle.rich_works(seed, 4, 12)
            desk = self.desk_of(works)
            rows = ["".join(str(worth) for worth in row) for row in oracle.rows(works)]
            before = [desk.say("run " + row) for row in rows]
            desk.say("less")
            self.assertEqual([desk.say("run " + row) for row in rows], before)


class SeenAndNext(Asked):
    def test_how_many_fit(self):
        desk = self.desk_of(AND)
        self.said(desk, ("next", "11"), ("seen 11 1", "fits 6"), ("next", "01"), ("seen 01 0", "fits 3"),
                  ("next", "10"),
                  ("seen 10 0", "fits 1"), ("next", "none"), ("seen 00 0", "fits 1"), ("next", "none"))

    def test_against_answers(self):
        chance = random.Random(4)
        for seed in range(30):
            works = oracle.some_works(seed)
            desk, answers = self.desk_of(works), []
            name = chance.choice(oracle.fitting(works, []))
            for row in chance.choices(oracle.rows(works), k=4):
                answers.append((row, oracle.answer(works, name, row)))
                figures = ["".join(str(worth) for worth in part) for part in answers[-1]]
                fits = len(what_fits(works, answers))
                asked = next_row(works, answers)
                told = "none" if asked is None else "".join(str(worth) for worth in asked)
                self.said(desk, ("seen " + " ".join(figures), f"fits {fits}"), ("next", told))

    def test_none_fits(self):
        self.said(self.desk_of(AND), ("seen 11 0", "fits 5"), ("next", "none"), ("seen 11 1", "fits 0"),
                  ("next", "none"),
                  ("seen 11 0", "fits 0"))

    def test_outputs_of_another_length(self):
        self.said(self.desk_of(AND), ("seen 11 11", "fits 0"), ("next", "none"))
        self.said(self.desk_of(SMALL), ("seen 11 1", "fits 0"))
        self.said(self.desk_of(AND), ("seen 11 " + "1" * 1000, "fits 0"))

    def test_the_same_seen_twice(self):
        self.said(self.desk_of(AND), ("seen 11 1", "fits 6"), ("seen 11 1", "fits 6"))

    def test_more_than_three_inputs(self):
        self.said(self.desk_of((6, [], [0, 1, 2, 3, 4, 5])), ("next", "000000"), ("seen 000000 000000", "fits 7"),
                  ("next", "111111"))

    def test_what_was_seen_is_gone_behind_put(self):
        # Behind the rows of a works no row makes a works again, so it shows only behind a clear.
        desk = self.desk_of(AND)
        self.said(desk, ("seen 00 1", "fits 1"), ("put out 2", "rows 4"))
        self.refused(desk, "next", NoText)
        self.said(desk, ("clear", "rows 0"), ("put in 1", "rows 1"), ("put out 0", "rows 2"), ("seen 1 1", "fits 2"))

    def test_what_was_seen_is_gone_behind_clear(self):
        desk = self.desk_of(AND)
        self.said(desk, ("seen 00 1", "fits 1"), ("clear", "rows 0"))
        for row in show_works(AND).split("\n"):
            desk.say("put " + row)
        self.said(desk, ("next", "11"), ("seen 11 1", "fits 6"))

    def test_what_was_seen_is_gone_behind_less(self):
        # It is bare already, so that the rows are the same ones.
        desk = self.desk_of(AND)
        self.said(desk, ("seen 00 1", "fits 1"), ("next", "none"), ("less", "gates 1 to 1"), ("next", "11"),
                  ("seen 11 1", "fits 6"))

    def test_what_was_seen_stays_otherwise(self):
        desk = self.desk_of(AND)
        self.said(desk, ("seen 11 1", "fits 6"))
        for row in ("run 01", "test wire 0 1", "alike wire 0 0, wire 1 0", "fewest", "bare", "next"):
            desk.say(row)
        for row in ("run 0", "test wire 9 1", "test x", "seen 1 1", "what", "put a\nb", "clear ", None, "less than"):
            with self.assertRaises((NoOrder, NoRow, NoFault, NoText)):
                desk.say(row)
        self.said(desk, ("next", "01"), ("seen 01 0", "fits 3"))


class Desks(Asked):
    def test_two_side_by_side(self):
        one, other = Desk(), Desk()
        self.said(one, ("put in 1", "rows 1"))
        self.said(other, ("put in 2", "rows 1"), ("put and 0 1", "rows 2"), ("put out 2", "rows 3"))
        self.said(one, ("put out 0", "rows 2"), ("seen 0 0", "fits 2"))
        self.said(other, ("next", "11"), ("seen 11 1", "fits 6"))
        self.said(one, ("next", "1"), ("run 1", "1"), ("clear", "rows 0"))
        self.said(other, ("run 11", "1"), ("next", "01"), ("less", "gates 1 to 1"))
        self.refused(one, "run 1", NoText)

    def test_nothing_is_left_of_an_earlier_desk(self):
        self.desk_of(AND).say("seen 00 1")
        self.refused(Desk(), "next", NoText)
        self.said(self.desk_of(AND), ("next", "11"))


class NoOrders(Asked):
    def test_what_is_no_text(self):
        for thing in (None, 0, 1, -1, 10 ** 30, True, False, [], ["clear"], ["put in 1"], (), ("clear",), {},
                      {"bare": 1},
                      1.5, b"clear", object(), Desk(), [None], ("put", "in 1"), set(), len):
            for desk in (Desk(), self.desk_of(AND)):
                self.refused(desk, thing, NoOrder)

    def test_other_words(self):
        for row in ("", " ", "x", "rows", "rows 1", "puts in 1", "Put in 1", "PUT in 1", "Clear", "CLEAR", "cleared",
                    "ru 01",
                    "runs 01", "Run 01", "tests wire 0 0", "unlike wire 0 0, wire 0 1", "few", "fewest2", "bar",
                    "barer",
                    "lesser", "les", "nexts", "nex", "see 01 0", "see", "wire 0 0", "in 1", "out 0", "well", "never",
                    "yes",
                    "01", "help", "put,in 1", "put\tin 1", "clear,", "alike, wire 0 0"):
            for desk in (Desk(), self.desk_of(AND)):
                self.refused(desk, row, NoOrder)

    def test_words_that_want_something_behind_them(self):
        for row in ("put", "run", "test", "alike", "seen"):
            for desk in (Desk(), self.desk_of(AND)):
                self.refused(desk, row, NoOrder)

    def test_something_behind_a_word_that_stands_alone(self):
        for word in ("clear", "fewest", "bare", "less", "next"):
            for behind in (" ", "  ", " 0", " 01", " x", " " + word, ",", ".", "\t"):
                for desk in (Desk(), self.desk_of(AND)):
                    self.refused(desk, word + behind, NoOrder)

    def test_blanks_ahead(self):
        for row in OF_A_WORKS + ["put in 1", "clear", "put "]:
            for desk in (Desk(), self.desk_of(AND)):
                self.refused(desk, " " + row, NoOrder)

    def test_run_with_other_figures(self):
        for behind in ("", " ", "2", "02", "20", "0 1", " 01", "01 ", "0,1", "01.", "-1", "+01", "ab", "0x", "1_0",
                       "o1",
                       "[0, 1]", "wire 0 1"):
            for desk in (Desk(), self.desk_of(AND)):
                self.refused(desk, "run " + behind, NoOrder)

    def test_seen_with_other_figures(self):
        for behind in ("", " ", "  ", "01", "01 ", " 0", " 01 0", "01  0", "01 0 ", "01 0 1", "01 2", "21 0", "01,0",
                       "01, 0", "0 1 0", "01 -0", "a b", "01 x", "2 ", " 2", "01 0\t"):
            for desk in (Desk(), self.desk_of(AND)):
                self.refused(desk, "seen " + behind, NoOrder)

    def test_alike_with_another_number_of_commas(self):
        for behind in ("", " ", "x", "wire 0 0", "wire 0 0,wire 1 0", "wire 0 0 wire 1 0", "wire 0 0 ,wire 1 0", ",",
                       " ,",
                       "wire 0 0, wire 1 0, wire 0 1", "wire 0 0, wire 1 0, ", ", wire 0 0, wire 1 0", ", , ",
                       "a, b, c",
                       "wire 0 0, , wire 1 0", "wire 0 0,\twire 1 0"):
            for desk in (Desk(), self.desk_of(AND)):
                self.refused(desk, "alike " + behind, NoOrder)

    def test_a_line_feed_anywhere(self):
        for row in OF_A_WORKS + ["put in 1", "clear", "put ", "", "x", "test x", "alike x, y"]:
            for place in range(len(row) + 1):
                for desk in (Desk(), self.desk_of(AND)):
                    self.refused(desk, row[:place] + "\n" + row[place:], NoOrder)


class Refusals(Asked):
    """In order: NoOrder, NoText of a fault, NoText and NoWorks of the rows, NoRow, NoFault, TooMany."""

    NO_FAULT_TEXTS = ["", " ", "x", "wire", "wire 0", "wire 0 2", "wire 00 1", "wire  0 1", " wire 0 1", "wire 0 1 ",
                      "leg 0 0", "leg 0 0 0 0", "Wire 0 0", "wire 0 0,", "wire 0,0", "wire -1 0", "never", "wire 0 0 0"]

    def test_a_fault_that_is_none_written(self):
        none = self.desk_with(["in 0", "out 0"])
        for text in self.NO_FAULT_TEXTS:
            for desk in (Desk(), none, self.desk_of(AND), self.desk_of(FOUR)):
                self.refused(desk, "test " + text, NoText)
                self.refused(desk, f"alike {text}, wire 0 0", NoText)
                self.refused(desk, f"alike wire 0 0, {text}", NoText)
                self.refused(desk, f"alike {text}, {text}", NoText)
                self.refused(desk, f"alike wire 99 0, {text}", NoText)
                self.refused(desk, f"alike {text}, wire 99 0", NoText)
        self.refused(self.desk_of(AND), "alike , ", NoText)
        self.refused(self.desk_of(AND), "alike wire 0 0,, wire 1 0", NoText)

    def test_rows_that_write_none(self):
        for rows in ([], [""], ["in 2"], ["in 2", "and 0 1"], ["in 2", "xor 0 1", "out 0"], ["in 2", "out 0", "out 0"],
                     ["in 2", "", "out 0"], ["in 2", "out 0", ""], ["in 02", "out 0"], ["in 0", "xor 0", "out"]):
            for row in OF_A_WORKS + ["run 0", "run 000", "seen 0 0", "test wire 99 0", "alike wire 99 0, wire 0 0"]:
                self.refused(self.desk_with(rows), row, NoText)

    def test_rows_of_a_works_that_is_none(self):
        for rows in (["in 0", "out 0"], ["in 2", "out"], ["in 2", "out 2"], ["in 2", "and 0", "out 0"],
                     ["in 2", "zero 0", "out 0"], ["in 2", "and 0 2", "out 0"], ["in 9", "not 9", "out 0"]):
            for row in OF_A_WORKS + ["run 0", "run 000", "seen 0 0", "test wire 99 0", "alike wire 99 0, wire 0 0"]:
                self.refused(self.desk_with(rows), row, NoWorks)

    def test_a_row_that_is_none(self):
        for works in (AND, (2, [], [0]), SMALL):
            for figures in ("0", "1", "000", "111", "0" * 1000):
                self.refused(self.desk_of(works), "run " + figures, NoRow)
                for outputs in ("0", "1", "00", "0101"):
                    self.refused(self.desk_of(works), f"seen {figures} {outputs}", NoRow)

    def test_a_fault_that_is_none_of_the_works(self):
        for text in ("wire 3 0", "wire 99 1", "leg 1 0 0", "leg 0 2 1", "leg 99 99 0", "wire " + "9" * 3000 + " 0"):
            desk = self.desk_of(AND)
            self.refused(desk, "test " + text, NoFault)
            self.refused(desk, f"alike {text}, wire 0 0", NoFault)
            self.refused(desk, f"alike wire 0 0, {text}", NoFault)
            self.refused(desk, f"alike {text}, {text}", NoFault)
        self.refused(self.desk_of(FOUR), "test wire 5 0", NoFault)

    def test_more_than_three_inputs(self):
        for works in (FOUR, (4, [], [0]), oracle.GREAT_ODD, (10 ** 6, [], [0])):
            self.refused(self.desk_of(works), "fewest", TooMany)

    def test_what_is_refused_changes_nothing(self):
        bad = ["put", "put in 1\n", "clear ", "run 0", "run 2", "test wire 9 9", "test wire 9 1", "alike wire 0 0",
               "alike wire 9 0, wire 0 0", "seen 0 0", "seen 00", "seen 000 1", "next one", "less gates", "bare?", "",
               None, 7]
        desk = self.desk_of(SPARE)
        self.said(desk, ("seen 10 1", f"fits {len(what_fits(SPARE, [([1, 0], [1])]))}"))
        asked = desk.say("next")
        for row in bad:
            with self.assertRaises((NoOrder, NoText, NoRow, NoFault)):
                desk.say(row)
            self.said(desk, ("next", asked), ("bare", "no"), ("run 10", "1"))
        fits = len(what_fits(SPARE, [([1, 0], [1]), ([0, 1], [0])]))
        self.said(desk, ("seen 01 0", f"fits {fits}"), ("put x", "rows 5"))

    def test_less_and_seen_of_no_works_change_nothing(self):
        desk = self.desk_with(["in 2"])
        for row in ("less", "seen 00 1", "next"):
            self.refused(desk, row, NoText)
        self.said(desk, ("put out 0", "rows 2"), ("seen 00 0", f"fits {len(what_fits((2, [], [0]), [([0, 0], [0])]))}"))
        desk = self.desk_with(["in 2", "out 2"])
        self.refused(desk, "less", NoWorks)
        self.said(desk, ("put x", "rows 3"))

    def test_too_many_changes_nothing(self):
        desk = self.desk_of(FOUR)
        self.said(desk, ("seen 0000 1", f"fits {len(what_fits(FOUR, [([0] * 4, [1])]))}"))
        asked = desk.say("next")
        self.refused(desk, "fewest", TooMany)
        self.said(desk, ("next", asked), ("run 0100", "1"))


class Whole(Asked):
    def test_a_desk_tells_what_the_parts_tell(self):
        for seed in range(15):
            works = oracle.rich_works(seed, 3, 8)
            desk = self.desk_of(works)
            self.assertEqual(read_works(show_works(works)), works)
            self.said(desk, ("bare", "yes" if is_bare(works) else "no"), ("fewest", str(len(fewest_rows(works)))))
            for row in oracle.rows(works):
                figures = "".join(str(worth) for worth in row)
                self.said(desk, ("run " + figures, "".join(str(worth) for worth in outputs_at(works, row))))


if __name__ == "__main__":
    unittest.main()
