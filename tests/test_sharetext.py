"""Sharings' texts: points 2, 4 and 5, and the interface's meetdesks/sharetext.py."""

import itertools
import unittest

from meetdesks.errors import MeetError, NoText, Twice
from meetdesks.sharetext import read_sharing, show_sharing
from meetdesks.sharing import Sharing, apart

SHOP = [("pay", ("till", "bank")), ("pack", ("store",)), ("send", ("till", "store"))]
SHOP_TEXT = "pay bank till\npack store\nsend store till"

FULL = [
    ("f", ("w",)),
    ("b", ("z", "x")),
    ("d", ("y",)),
    ("a", ("z", "y", "x", "w")),
    ("e", ("x",)),
    ("c", ("w", "y")),
]
FULL_TEXT = "f w\nb x z\nd y\na w x y z\ne x\nc w y"

# Rows of which none is a letter and its desks.
NO_ROWS = [
    "", " ", "  ",
    " a x", "  a x", "a  x", "a x  y", "a   x", "a x ", "a x y ", "a x  ", " a x ", "a ", " a",
    "a", "abcdefgh",
    "abcdefghi x", "a abcdefghi", "a x abcdefghi", "a abcdefghi x",
    "A x", "a X", "a x Y", "aB x", "a xY", "a x yZ", "Ab x",
    "1 x", "a 1", "a x1", "a1 x", "a x y2", "a 0",
    "a x,y", "a x, y", "a: x", "a x.", "a_b x", "a x_y", "a-b x", "a -", "a x/y", "a ~", "~ x", "a !", "a x#",
    "a 'x'", "a\\b x", "a x;", "a @", "a [x]", "a {", "a `", "a (x,)",
]


class TextCase(unittest.TestCase):
    def assert_sharing(self, sharing, letters, desks, meets):
        self.assertIsInstance(sharing, Sharing)
        self.assertEqual(sharing.letters, letters)
        self.assertEqual(sharing.desks, desks)
        for letter, told in meets.items():
            self.assertEqual(sharing.meet(letter), told)

    def assert_alike(self, sharing, other):
        self.assert_sharing(sharing, other.letters, other.desks, {x: other.meet(x) for x in other.letters})

    def assert_no_text(self, text, line):
        for again in range(2):
            with self.assertRaises(MeetError, msg=repr(text)) as taken:
                read_sharing(text)
            self.assertIs(taken.exception.__class__, NoText, repr(text))
            self.assertEqual(taken.exception.line, line, repr(text))

    def assert_twice(self, text, name):
        for again in range(2):
            with self.assertRaises(MeetError, msg=repr(text)) as taken:
                read_sharing(text)
            self.assertIs(taken.exception.__class__, Twice, repr(text))
            self.assertEqual(taken.exception.name, name, repr(text))


class Shown(TextCase):
    def test_letters_as_told_and_desks_rising(self):
        self.assertEqual(show_sharing(Sharing(list(SHOP))), SHOP_TEXT)

    def test_six_letters_and_four_desks(self):
        self.assertEqual(show_sharing(Sharing(list(FULL))), FULL_TEXT)

    def test_one_letter_and_one_desk(self):
        self.assertEqual(show_sharing(Sharing([("a", ("x",))])), "a x")

    def test_every_order_of_letters(self):
        rows = {"pay": "pay bank till", "pack": "pack store", "send": "send store till"}
        for told in itertools.permutations(SHOP):
            due = "\n".join([rows[letter] for letter, desks in told])
            self.assertEqual(show_sharing(Sharing(list(told))), due)

    def test_every_order_of_desks(self):
        for desks in itertools.permutations(("b", "abcdefgh", "ab", "a")):
            self.assertEqual(show_sharing(Sharing([("z", desks)])), "z a ab abcdefgh b")

    def test_longest_names_and_names_called_alike(self):
        sharing = Sharing([("zzzzzzzz", ("zzzzzzzz", "aaaaaaaa")), ("aaaaaaaa", ("zzzzzzzz",))])
        self.assertEqual(show_sharing(sharing), "zzzzzzzz aaaaaaaa zzzzzzzz\naaaaaaaa zzzzzzzz")

    def test_it_is_a_text_and_the_same_again(self):
        sharing = Sharing(list(SHOP))
        for again in range(3):
            self.assertIs(show_sharing(sharing).__class__, str)
            self.assertEqual(show_sharing(sharing), SHOP_TEXT)
        self.assert_alike(sharing, Sharing(list(SHOP)))


class Read(TextCase):
    def test_a_text(self):
        meets = {"pay": ("bank", "till"), "pack": ("store",), "send": ("store", "till")}
        self.assert_sharing(read_sharing(SHOP_TEXT), ("pay", "pack", "send"), ("bank", "store", "till"), meets)

    def test_one_letter_and_one_desk(self):
        self.assert_sharing(read_sharing("a x"), ("a",), ("x",), {"a": ("x",)})

    def test_desks_in_any_order(self):
        for desks in itertools.permutations(("ann", "bob", "cy", "dee")):
            sharing = read_sharing("go " + " ".join(desks) + "\nstay " + " ".join(desks[:2]))
            meets = {"go": ("ann", "bob", "cy", "dee"), "stay": tuple(sorted(desks[:2]))}
            self.assert_sharing(sharing, ("go", "stay"), ("ann", "bob", "cy", "dee"), meets)

    def test_letters_in_every_order(self):
        for rows in itertools.permutations(FULL_TEXT.split("\n")):
            sharing = read_sharing("\n".join(rows))
            self.assertEqual(sharing.letters, tuple([row[0] for row in rows]))
            self.assertEqual(sharing.meet("c"), ("w", "y"))

    def test_names_of_eight_signs(self):
        sharing = read_sharing("abcdefgh stuvwxyz\nz abcdefgh")
        meets = {"abcdefgh": ("stuvwxyz",), "z": ("abcdefgh",)}
        self.assert_sharing(sharing, ("abcdefgh", "z"), ("abcdefgh", "stuvwxyz"), meets)

    def test_every_small_letter(self):
        for sign in "abcdefghijklmnopqrstuvwxyz":
            self.assert_sharing(read_sharing(f"{sign} {sign}"), (sign,), (sign,), {sign: (sign,)})
            both = sign * 8
            self.assert_sharing(read_sharing(f"{both} {sign}"), (both,), (sign,), {both: (sign,)})

    def test_names_called_alike(self):
        sharing = read_sharing("a b a\nb a\nc c")
        meets = {"a": ("a", "b"), "b": ("a",), "c": ("c",)}
        self.assert_sharing(sharing, ("a", "b", "c"), ("a", "b", "c"), meets)

    def test_what_was_read_is_put_to_use(self):
        sharing = read_sharing(SHOP_TEXT)
        self.assertIs(apart(sharing, "pay", "pack"), True)
        self.assertIs(apart(sharing, "pay", "send"), False)

    def test_each_is_a_new_one(self):
        first = read_sharing(SHOP_TEXT)
        second = read_sharing(SHOP_TEXT)
        self.assertIsNot(first, second)
        self.assert_alike(first, second)

    def test_what_was_written_is_read(self):
        for rows in (SHOP, FULL, [("a", ("x",))], [("good", ("plain", "letters")), ("desks", ("good",))]):
            sharing = Sharing(list(rows))
            self.assert_alike(read_sharing(show_sharing(sharing)), sharing)

    def test_what_was_read_is_written_with_desks_rising(self):
        self.assertEqual(show_sharing(read_sharing("b z y\na y x w")), "b y z\na w x y")
        for text in (SHOP_TEXT, FULL_TEXT, "a x"):
            self.assertEqual(show_sharing(read_sharing(text)), text)


class RefusedNoText(TextCase):
    def test_the_text_without_signs(self):
        self.assert_no_text("", 1)

    def test_a_row_alone(self):
        for row in NO_ROWS:
            self.assert_no_text(row, 1)

    def test_a_row_at_every_place(self):
        good = ["m x", "n y", "o x z", "p y"]
        for row in NO_ROWS:
            for at in range(len(good) + 1):
                self.assert_no_text("\n".join(good[:at] + [row] + good[at:]), at + 1)

    def test_of_two_rows_the_first(self):
        self.assert_no_text("m x\nA y\nn y\no\np z", 2)
        self.assert_no_text("m\nn  y\no x", 1)
        self.assert_no_text("m x\nn y\no \np", 3)
        for one, other in itertools.permutations(["", "a", "a  x", "A x", "a abcdefghi"], 2):
            self.assert_no_text(f"m x\n{one}\n{other}", 2)
            self.assert_no_text(f"{one}\nm x\n{other}", 1)

    def test_an_empty_row_behind_the_last_one(self):
        self.assert_no_text("m x\n", 2)
        self.assert_no_text(SHOP_TEXT + "\n", 4)
        self.assert_no_text(SHOP_TEXT + "\n\n", 4)

    def test_line_feeds_alone(self):
        self.assert_no_text("\n", 1)
        self.assert_no_text("\n\n\n", 1)
        self.assert_no_text("\nm x", 1)

    def test_blanks_at_a_line_feed(self):
        self.assert_no_text("m x \nn y", 1)
        self.assert_no_text("m x\n n y", 2)
        self.assert_no_text("m x\n \nn y", 2)

    def test_ahead_of_twice(self):
        self.assert_no_text("m x\nm y\nn", 3)
        self.assert_no_text("m x x\nN y", 2)
        self.assert_no_text("m x x\nm y y\n", 3)
        self.assert_no_text("m x x ", 1)
        self.assert_no_text("m  x x", 1)


class RefusedTwice(TextCase):
    def test_a_letter(self):
        self.assert_twice("m x\nm y", "m")
        self.assert_twice("m x\nn y\no z\nm x", "m")
        self.assert_twice("m x\nn y\no z\no z", "o")

    def test_of_several_letters_the_first_that_came_again(self):
        self.assert_twice("m x\nn y\nn z\nm x", "n")

    def test_a_desk(self):
        self.assert_twice("m x x", "x")
        self.assert_twice("m x y z x", "x")
        self.assert_twice("m x\nn y\no z y z", "z")

    def test_of_several_desks_the_first_that_came_again(self):
        self.assert_twice("m x y y x", "y")
        self.assert_twice("m y x x y", "x")
        self.assert_twice("m y y\nn x x", "y")

    def test_a_letter_ahead_of_its_desks_and_behind_earlier_desks(self):
        self.assert_twice("m x\nm y y", "m")
        self.assert_twice("m x\nn y y\nm z", "y")
        self.assert_twice("m x\nm y\nn z z", "m")

    def test_it_changes_nothing(self):
        self.assert_twice("m x\nm y", "m")
        self.assert_sharing(read_sharing("m y\nn x"), ("m", "n"), ("x", "y"), {"m": ("y",), "n": ("x",)})


if __name__ == "__main__":
    unittest.main()
