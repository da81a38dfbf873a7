import unittest

from stuckwires import errors

NAMES = ["NoWorks", "NoRow", "NoFault", "NoText", "NoOrder", "TooMany"]


class Refusals(unittest.TestCase):
    def test_the_one_above_all_is_a_value_error(self):
        self.assertEqual(errors.StuckError.__bases__, (ValueError,))

    def test_each_stands_straight_under_it(self):
        for name in NAMES:
            with self.subTest(name):
                self.assertEqual(getattr(errors, name).__bases__, (errors.StuckError,))

    def test_none_stands_under_another_one(self):
        for name in NAMES:
            for other in NAMES:
                if name != other:
                    with self.subTest(name=name, other=other):
                        self.assertFalse(issubclass(getattr(errors, name), getattr(errors, other)))

    def test_each_can_be_raised_with_words(self):
        for name in NAMES:
            with self.subTest(name), self.assertRaises(errors.StuckError):
                raise getattr(errors, name)("words")


if __name__ == "__main__":
    unittest.main()
