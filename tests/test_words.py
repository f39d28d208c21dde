"""Names, numbers, the form of columns, lots and growths."""

import unittest

from bothlots import words
from bothlots.words import is_column, is_name, is_number

NO_STRINGS = (0, 1, -1, 123456, None, True, False, (), ("a",), [], ["a"], (("a",),), b"a")
NO_NUMBERS = (True, False, None, "", "3", "a", (), (3,), [], [3], ((3,), 3), b"3")


class NameTest(unittest.TestCase):
    def test_names(self):
        for value in ("a", "z", "ab", "abc", "people", "zzzzzz", "own", "name", "tick", "worth", "learn", "is"):
            with self.subTest(value):
                self.assertIs(is_name(value), True)

    def test_each_letter(self):
        for letter in "abcdefghijklmnopqrstuvwxyz":
            self.assertIs(is_name(letter), True)
            self.assertIs(is_name(letter * 6), True)

    def test_lengths(self):
        self.assertEqual([is_name("a" * length) for length in range(9)], [False] + [True] * 6 + [False] * 2)
        self.assertIs(is_name("a" * 4000), False)

    def test_another_character_at_any_place(self):
        others = [chr(code) for code in range(32, 127) if not "a" <= chr(code) <= "z"]
        for other in [*others, "\n", "\t", "\x00", "\x7f", "\xe4", "\xdf", "\u0131", "\u03b1"]:
            for length in range(1, 7):
                for at in range(length):
                    value = "b" * at + other + "b" * (length - at - 1)
                    self.assertIs(is_name(value), False, repr(value))

    def test_a_character_too_many_behind_six(self):
        for value in ("people\n", "people ", " people", "people.", "\npeople"):
            self.assertIs(is_name(value), False, repr(value))

    def test_no_strings(self):
        for value in NO_STRINGS:
            self.assertIs(is_name(value), False, repr(value))

    def test_by_name(self):
        self.assertIs(is_name(value="ab"), True)
        self.assertIs(is_name(value="Ab"), False)


class NumberTest(unittest.TestCase):
    def test_bounds(self):
        for least, most in ((0, 12), (1, 12), (2, 3), (-5, 5), (-9, -4), (4, 4), (0, 100000), (0, 10 ** 15 - 1)):
            with self.subTest(least=least, most=most):
                self.assertIs(is_number(least, least, most), True)
                self.assertIs(is_number(most, least, most), True)
                self.assertIs(is_number((least + most) // 2, least, most), True)
                self.assertIs(is_number(least - 1, least, most), False)
                self.assertIs(is_number(most + 1, least, most), False)

    def test_nothing_between_bounds_that_cross(self):
        for value in range(-1, 8):
            self.assertIs(is_number(value, 5, 2), False)

    def test_no_numbers(self):
        for value in NO_NUMBERS:
            self.assertIs(is_number(value, -10, 10), False, repr(value))
            self.assertIs(is_number(value, 0, 1), False, repr(value))

    def test_by_name(self):
        self.assertIs(is_number(value=3, least=3, most=4), True)
        self.assertIs(is_number(most=4, least=3, value=2), False)


class ColumnTest(unittest.TestCase):
    def test_columns(self):
        for value in ("a", "people", "people.home", "a.b", "own", "own.own"):
            self.assertIs(is_column(value), True, value)

    def test_no_columns(self):
        for value in ("", ".", "a.", ".a", "a..b", "a.b.c", "a.b.", "a .b", "a.B", "people.homeses", "a\n.b", "a.b\n"):
            self.assertIs(is_column(value), False, repr(value))

    def test_no_strings(self):
        for value in (*NO_STRINGS, ("a", "b"), ["a", "b"]):
            self.assertIs(is_column(value), False, repr(value))


class FixedWordsTest(unittest.TestCase):
    def test_lots(self):
        self.assertEqual(words.LOTS, ("learn", "judge"))

    def test_growths(self):
        self.assertEqual(words.GROWTHS, ("end", "late", "any"))


if __name__ == "__main__":
    unittest.main()
