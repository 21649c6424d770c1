"""Names and words: point 2, and what points 5, 11, 25, 32 and 33 say of words."""

import unittest

from meetdesks.errors import Twice
from meetdesks.words import is_name, number_in, refuse_twice, rising, words_of


class Names(unittest.TestCase):
    def test_one_to_eight_small_letters(self):
        for name in ("a", "z", "m", "az", "till", "abcdefgh", "stuvwxyz", "ijklmnop", "qr", "zzzzzzzz"):
            self.assertIs(is_name(name), True, name)

    def test_none_or_too_many(self):
        for word in ("", "abcdefghi", "a" * 9, "a" * 500):
            self.assertIs(is_name(word), False, word)

    def test_other_signs_at_any_place(self):
        for sign in " AZ09_-.,/`{\n\t~@[" + "\u00e9\u00df\u00b5\u0430":
            for word in (sign, sign + "a", "a" + sign, "a" + sign + "b"):
                self.assertIs(is_name(word), False, word)

    def test_what_is_no_text(self):
        for thing in (None, 5, True, b"abc", ["a"], ("a", "b")):
            self.assertIs(is_name(thing), False, thing)


class Words(unittest.TestCase):
    def test_parted_by_one_blank(self):
        self.assertEqual(words_of("pay till bank"), ["pay", "till", "bank"])
        self.assertEqual(words_of("pay"), ["pay"])
        self.assertEqual(words_of("- : 0~"), ["-", ":", "0~"])

    def test_a_word_without_signs(self):
        for row in ("", " ", "  ", " pay", "pay ", "pay  till", "  pay"):
            self.assertIsNone(words_of(row), row)


class Figures(unittest.TestCase):
    def test_numbers(self):
        for number in (0, 1, 9, 10, 63, 99, 100, 305, 999):
            self.assertEqual(number_in(str(number), 3), number)
        self.assertEqual(number_in("9999", 4), 9999)

    def test_too_many_figures_or_none(self):
        self.assertIsNone(number_in("", 3))
        self.assertIsNone(number_in("1000", 3))
        self.assertIsNone(number_in("10000", 4))

    def test_the_first_is_no_0_but_in_0_itself(self):
        for word in ("00", "01", "007", "000"):
            self.assertIsNone(number_in(word, 3), word)

    def test_other_signs(self):
        for word in ("-1", "+1", "1 ", " 1", "1_0", "a", "1a", "1.", "\u00b2", "\u0663"):
            self.assertIsNone(number_in(word, 3), word)


class Rising(unittest.TestCase):
    def test_sorted_each_once(self):
        self.assertEqual(rising(["b", "aa", "b", "a"]), ("a", "aa", "b"))
        self.assertEqual(rising((10, 9, 10, 0)), (0, 9, 10))
        self.assertEqual(rising([]), ())


class RefuseTwice(unittest.TestCase):
    def test_each_once_is_let_by(self):
        for names in ([], ["a"], ["b", "a", "ab"], ("x", "y")):
            self.assertIsNone(refuse_twice(names))

    def test_the_first_that_stands_there_already(self):
        for names, due in ((["a", "a"], "a"), (["a", "b", "b", "a"], "b"), (("x", "y", "z", "x", "y"), "x")):
            with self.assertRaises(Twice) as taken:
                refuse_twice(names)
            self.assertEqual(taken.exception.name, due)


if __name__ == "__main__":
    unittest.main()
