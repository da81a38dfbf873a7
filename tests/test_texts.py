import copy
import random
import unittest

from stuckwires.errors import NoText, NoWorks
from stuckwires.faults import every_fault
from stuckwires.lesser import made_less
from stuckwires.texts import read_fault, read_works, show_fault, show_works
from stuckwires.works import works_of
from tests import oracle
from tests.test_faults import SMALL
from tests.test_fewest import AND, EIGHT

# Every kind with every number of legs that it lets.
KINDS = (2, [(kind, (0, 1, 0, 1)[:count]) for kind, bounds in oracle.ANY_LEGS.items()
             for count in range(bounds[0], bounds[1] + 1)], [12, 0, 12])
KINDS_TEXT = """in 2
and 0 1
and 0 1 0
and 0 1 0 1
or 0 1
or 0 1 0
or 0 1 0 1
odd 0 1
odd 0 1 0
odd 0 1 0 1
not 0
choose 0 1 0
zero
one
out 12 0 12"""

NO_NUMBERS = ["", "00", "01", "007", "+1", "-1", "-0", "+0", "1.", "1.0", "1e1", "0x1", "1_0", "x", "one", "1a", "a1",
              "1,", "0b1", "1-", "~", "!", "\t1", "1\t"]
MANY = "9" * 3900


class ShowWorks(unittest.TestCase):
    def test_rows_parted_by_line_feeds(self):
        self.assertEqual(show_works(works_of(*AND)), "in 2\nand 0 1\nout 2")
        self.assertEqual(show_works(works_of(1, [], [0])), "in 1\nout 0")
        self.assertEqual(show_works(works_of(1, [("zero", ()), ("one", ())], [2, 1, 2])), "in 1\nzero\none\nout 2 1 2")
        self.assertEqual(show_works(works_of(*SMALL)), "in 2\nand 0 1\nor 2 1\nout 3 2")

    def test_every_kind_with_every_number_of_legs(self):
        self.assertEqual(show_works(works_of(*KINDS)), KINDS_TEXT)

    def test_numbers_of_many_figures(self):
        self.assertEqual(show_works(works_of(123456, [("not", (99999,))], [123456, 0])),
                         "in 123456\nnot 99999\nout 123456 0")

    def test_nothing_is_changed(self):
        works = works_of(*SMALL)
        before = copy.deepcopy(works)
        self.assertIs(type(show_works(works)), str)
        self.assertEqual(works, before)


class ReadWorks(unittest.TestCase):
    def refused(self, text, error):
        with self.subTest(text[:60]), self.assertRaises(error) as caught:
            read_works(text)
        self.assertIs(type(caught.exception), error)

    def test_what_is_written_is_read_to_the_same(self):
        for works in (AND, SMALL, EIGHT, KINDS, oracle.GREAT_ODD, oracle.GREAT_MIXED, (1, [], [0]),
                      (6, [], [5] * 1000)):
            self.assertEqual(read_works(show_works(works_of(*works))), works)
        for seed in range(100):
            for works in (oracle.some_works(seed, 6, 20), made_less(oracle.some_works(seed, 6, 20))):
                with self.subTest(works):
                    self.assertEqual(read_works(show_works(works)), works)

    def test_what_is_read_is_written_to_the_same(self):
        for text in (KINDS_TEXT, "in 1\nout 0", "in 10\nzero\nout 10 10"):
            self.assertEqual(show_works(read_works(text)), text)

    def test_kinds_and_new_lists(self):
        told = read_works(KINDS_TEXT)
        self.assertIs(type(told), tuple)
        self.assertEqual([type(part) for part in told], [int, list, list])
        for body in told[1]:
            self.assertIs(type(body), tuple)
            self.assertEqual([type(part) for part in body], [str, tuple])
            self.assertTrue(all(type(leg) is int for leg in body[1]))
        self.assertTrue(all(type(wire) is int for wire in told[2]))
        told[1].clear()
        told[2].clear()
        self.assertEqual(read_works(KINDS_TEXT), KINDS)

    def test_numbers_of_many_figures(self):
        self.assertEqual(read_works("in 1000\nodd 999 100\nout 1000"), (1000, [("odd", (999, 100))], [1000]))
        self.assertEqual(read_works("in " + MANY + "\nout 0"), (int(MANY), [], [0]))
        self.assertEqual(read_works("in " + "1" * 5000 + "\nout 10")[2], [10])
        self.refused("in 1\nnot " + MANY + "\nout 0", NoWorks)
        self.refused("in 1\nout " + MANY, NoWorks)
        self.refused("in 1\nout " + "1" * 5000, NoWorks)
        self.refused("in 0" + MANY + "\nout 0", NoText)
        self.refused("in 1\nout " + MANY + "x", NoText)

    def test_an_empty_text(self):
        self.refused("", NoText)
        self.refused(" ", NoText)
        for count in range(1, 5):
            self.refused("\n" * count, NoText)

    def test_numbers_that_are_none(self):
        for number in NO_NUMBERS:
            self.refused(f"in {number}\nzero\nout 0", NoText)
            self.refused(f"in 1\nnot {number}\nout 0", NoText)
            self.refused(f"in 2\nand 0 {number}\nout 0", NoText)
            self.refused(f"in 2\nand {number} 0\nout 0", NoText)
            self.refused(f"in 1\nout {number}", NoText)
            self.refused(f"in 1\nout 0 {number} 0", NoText)

    def test_signs_and_blanks_too_many(self):
        rows = ["in 2", "and 0 1", "zero", "out 2 3"]
        for place, row in enumerate(rows):
            for other in (" " + row, row + " ", row.replace(" ", "  "), row + ".", row + ",", row + "\t", row + ";",
                          "\t" + row, row + "\r", row.upper(), row.title(), row + " x"):
                if other != row:
                    self.refused("\n".join(rows[:place] + [other] + rows[place + 1:]), NoText)

    def test_blanks_too_few(self):
        for text in ("in2\nand 0 1\nout 2", "in 2\nand0 1\nout 2", "in 2\nand 0 1\nout2", "in 2 and 0 1 out 2",
                     "in 2\nand 0 1 out 2", "in 2 and 0 1\nout 2", "in,2\nout,0"):
            self.refused(text, NoText)

    def test_another_word_in_a_kinds_place(self):
        for word in ("xor", "nand", "And", "AND", "", "an", "ands", "wire", "leg", "in", "out", "put", "0", "1", "and,",
                     "true", "nots", "zeroone"):
            self.refused(f"in 2\n{word} 0 1\nout 0", NoText)
            self.refused(f"in 2\n{word}\nout 0", NoText)
            self.refused(f"in 2\nzero\n{word} 0\nout 0", NoText)

    def test_line_feeds_too_many(self):
        text = "in 2\nand 0 1\nzero\nout 2 3"
        for place, sign in enumerate(text):
            if sign == "\n":
                self.refused(text[:place] + "\n" + text[place:], NoText)
            if sign == " ":
                self.refused(text[:place] + "\n" + text[place + 1:], NoText)
                self.refused(text[:place] + "\n" + text[place:], NoText)
        self.refused(text + "\n", NoText)
        self.refused("\n" + text, NoText)
        self.refused(text.replace("\n", "\r\n"), NoText)
        self.refused(text.replace("\n", "\r"), NoText)

    def test_line_feeds_too_few(self):
        text = "in 2\nand 0 1\nzero\nout 2 3"
        for place, sign in enumerate(text):
            if sign == "\n":
                self.refused(text[:place] + " " + text[place + 1:], NoText)
                self.refused(text[:place] + text[place + 1:], NoText)

    def test_rows_left_out(self):
        for text in ("in 2", "out 0", "and 0 1", "zero", "in 2\nand 0 1", "and 0 1\nout 0", "zero\nout 0", "in", "out",
                     "in\nout 0", "in\nzero\nout 0", "in 1 2\nout 0", "in 0 0\nout 0"):
            self.refused(text, NoText)

    def test_rows_out_of_their_order(self):
        for text in ("out 0\nin 2", "and 0 1\nin 2\nout 0", "in 2\nout 0\nand 0 1", "in 2\nout 0\nout 0",
                     "in 2\nin 2\nout 0", "in 2\nout 0\nin 2", "out 0\nout 0", "in 1\nin 1", "out 0\nand 0 1\nin 2"):
            self.refused(text, NoText)

    def test_works_that_are_none(self):
        for text in ("in 0\nout 0", "in 0\nzero\nout 0", "in 1\nout", "in 1\nzero\nout", "in 1\nout 1", "in 1\nout 0 1",
                     "in 1\nnot 1\nout 0", "in 1\nnot 0\nout 2", "in 2\nzero\nand 0 3\nout 0", "in 2\nand 0 2\nout 0",
                     "in 0\nout"):
            self.refused(text, NoWorks)

    def test_a_kind_with_another_number_of_legs(self):
        for kind, bounds in oracle.ANY_LEGS.items():
            for count in range(8):
                row = " ".join([kind] + ["0"] * count)
                if bounds[0] <= count <= bounds[1]:
                    self.assertEqual(read_works(f"in 1\n{row}\nout 1"), (1, [(kind, (0,) * count)], [1]))
                else:
                    self.refused(f"in 1\n{row}\nout 1", NoWorks)

    def test_no_text_goes_ahead_of_no_works(self):
        for text in ("in 0\nxor 0\nout 0", "in 0\nout", "in 1\nand 0\nout", "in 1\nand 0\nzero x\nout 0"):
            self.refused(text.replace("out", "out 00"), NoText)
            self.refused(text + "\n", NoText)
            self.refused(text + " ", NoText)
        self.refused("in 0\nxor 0 1\nout 0", NoText)
        self.refused("in 1\nand 0\nxor\nout 0", NoText)
        self.refused("in 1\nnot 7\nout 00", NoText)

    def test_texts_with_one_slip(self):
        # Whatever slips in: it is refused, or it is read to a works that is written so.
        chance = random.Random(30)
        read = 0
        for _ in range(3000):
            text = list(show_works(oracle.some_works(chance.randrange(50), 3, 4)))
            place = chance.randrange(len(text))
            text[place:place + chance.randrange(2)] = chance.choice(["", " ", "\n", "0", "1", "9", "-", "a", "\n\n",
                                                                     "  "])
            text = "".join(text)
            try:
                works = read_works(text)
            except (NoText, NoWorks):
                continue
            read += 1
            self.assertEqual(show_works(works), text)
        self.assertGreater(read, 100)


class Faults(unittest.TestCase):
    def refused(self, text):
        with self.subTest(text[:60]), self.assertRaises(NoText) as caught:
            read_fault(text)
        self.assertIs(type(caught.exception), NoText)

    def test_how_they_are_written(self):
        for fault, text in (
            (("wire", 0, 1), "wire 0 1"),
            (("wire", 25, 0), "wire 25 0"),
            (("leg", 0, 0, 0), "leg 0 0 0"),
            (("leg", 19, 3, 1), "leg 19 3 1"),
            (("leg", 1234567890123456789012345, 10, 1), "leg 1234567890123456789012345 10 1"),
        ):
            with self.subTest(text):
                self.assertEqual(show_fault(fault), text)
                self.assertIs(type(show_fault(fault)), str)
                told = read_fault(text)
                self.assertEqual(told, fault)
                self.assertIs(type(told), tuple)
                self.assertEqual([type(part) for part in told], [str] + [int] * (len(fault) - 1))

    def test_what_is_written_is_read_to_the_same(self):
        for works in (SMALL, EIGHT, oracle.GREAT_MIXED):
            for fault in every_fault(works_of(*works)):
                self.assertEqual(read_fault(show_fault(fault)), fault)

    def test_the_works_judge_the_rest(self):
        self.assertEqual(read_fault("wire 99 1"), ("wire", 99, 1))
        self.assertEqual(read_fault("leg 99 99 0"), ("leg", 99, 99, 0))
        self.assertEqual(read_fault("wire " + MANY + " 0"), ("wire", int(MANY), 0))
        self.assertEqual(read_fault("leg 0 " + "1" * 5000 + " 1")[3], 1)

    def test_a_worth_that_is_neither_0_nor_1(self):
        for worth in ("2", "9", "10", "11", "01", "00", MANY) + tuple(NO_NUMBERS):
            self.refused("wire 0 " + worth)
            self.refused("leg 0 0 " + worth)

    def test_numbers_that_are_none(self):
        for number in NO_NUMBERS:
            self.refused(f"wire {number} 0")
            self.refused(f"leg {number} 0 0")
            self.refused(f"leg 0 {number} 0")

    def test_other_words(self):
        for word in ("", "wires", "Wire", "WIRE", "legs", "Leg", "LEG", "gate", "w", "well", "0", "in", "and"):
            self.refused(word)
            self.refused(word + " 0 0")
            self.refused(word + " 0 0 0")

    def test_too_many_and_too_few(self):
        for text in ("wire", "wire 0", "wire 0 0 0", "wire 0 1 0 1", "leg", "leg 0", "leg 0 0", "leg 0 0 0 0",
                     "leg 0 1 0 1 1", "wire 0,1", "leg 0,0,1"):
            self.refused(text)

    def test_blanks_and_line_feeds(self):
        for text in ("wire 0 1", "leg 0 0 1"):
            for other in (" " + text, text + " ", text.replace(" ", "  "), text.replace(" ", ""),
                          text.replace(" ", "\t"),
                          text.replace(" ", "\n"), text + "\n", "\n" + text, text + "\n" + text, text + ",",
                          text + "."):
                self.refused(other)
        for text in ("", " ", "\n", "  "):
            self.refused(text)


if __name__ == "__main__":
    unittest.main()
