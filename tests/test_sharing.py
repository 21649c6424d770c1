"""Sharings: points 2, 4 and 7, and the interface's meetdesks/sharing.py."""

import copy
import itertools
import unittest

from meetdesks.errors import MeetError, NoLetter, Twice
from meetdesks.sharing import Sharing, apart

SHOP = [("pay", ("till", "bank")), ("pack", ("store",)), ("send", ("store", "till")), ("audit", ("bank",))]

# Six letters, four desks: the most that a sharing has.
FULL = [
    ("f", ("w",)),
    ("b", ("z", "x")),
    ("d", ("y",)),
    ("a", ("z", "y", "x", "w")),
    ("e", ("x",)),
    ("c", ("w", "y")),
]


class SharingCase(unittest.TestCase):
    def assert_sharing(self, sharing, letters, desks, meets):
        self.assertEqual(sharing.letters, letters)
        self.assertEqual(sharing.desks, desks)
        for letter, told in meets.items():
            self.assertEqual(sharing.meet(letter), told)

    def assert_tuple_of_texts(self, told):
        self.assertIs(told.__class__, tuple)
        for name in told:
            self.assertIs(name.__class__, str)

    def assert_shop(self, sharing):
        self.assert_sharing(
            sharing,
            ("pay", "pack", "send", "audit"),
            ("bank", "store", "till"),
            {"pay": ("bank", "till"), "pack": ("store",), "send": ("store", "till"), "audit": ("bank",)},
        )


class Made(SharingCase):
    def test_letters_as_told_and_desks_rising(self):
        self.assert_shop(Sharing(list(SHOP)))

    def test_letters_keep_every_order(self):
        for rows in itertools.permutations(SHOP):
            sharing = Sharing(list(rows))
            self.assertEqual(sharing.letters, tuple([letter for letter, desks in rows]))
            self.assertEqual(sharing.desks, ("bank", "store", "till"))
            self.assertEqual(sharing.meet("pay"), ("bank", "till"))

    def test_desks_of_a_letter_rise_however_told(self):
        for desks in itertools.permutations(("ann", "bob", "cy", "dee")):
            sharing = Sharing([("go", desks)])
            self.assert_sharing(sharing, ("go",), ("ann", "bob", "cy", "dee"), {"go": ("ann", "bob", "cy", "dee")})

    def test_desks_rise_as_texts_not_by_length_or_coming(self):
        sharing = Sharing([("m", ("b", "abcdefgh")), ("n", ("ab", "a"))])
        desks = ("a", "ab", "abcdefgh", "b")
        self.assert_sharing(sharing, ("m", "n"), desks, {"m": ("abcdefgh", "b"), "n": ("a", "ab")})

    def test_all_are_tuples_of_texts(self):
        for rows in (SHOP, FULL, [("a", ("x",))]):
            sharing = Sharing(list(rows))
            self.assert_tuple_of_texts(sharing.letters)
            self.assert_tuple_of_texts(sharing.desks)
            for letter in sharing.letters:
                self.assert_tuple_of_texts(sharing.meet(letter))

    def test_one_letter_and_one_desk(self):
        self.assert_sharing(Sharing([("a", ("x",))]), ("a",), ("x",), {"a": ("x",)})
        self.assert_sharing(Sharing([("z", ("b", "a"))]), ("z",), ("a", "b"), {"z": ("a", "b")})

    def test_many_letters_of_one_desk(self):
        sharing = Sharing([(letter, ("x",)) for letter in "fedcba"])
        self.assert_sharing(sharing, ("f", "e", "d", "c", "b", "a"), ("x",), {letter: ("x",) for letter in "abcdef"})

    def test_six_letters_and_four_desks(self):
        self.assert_sharing(
            Sharing(list(FULL)),
            ("f", "b", "d", "a", "e", "c"),
            ("w", "x", "y", "z"),
            {"a": ("w", "x", "y", "z"), "b": ("x", "z"), "c": ("w", "y"), "d": ("y",), "e": ("x",), "f": ("w",)},
        )

    def test_longest_and_shortest_names(self):
        sharing = Sharing([("zzzzzzzz", ("aaaaaaaa", "a")), ("z", ("zzzzzzzz",))])
        desks = ("a", "aaaaaaaa", "zzzzzzzz")
        self.assert_sharing(sharing, ("zzzzzzzz", "z"), desks, {"zzzzzzzz": ("a", "aaaaaaaa"), "z": ("zzzzzzzz",)})

    def test_a_desk_called_like_a_letter(self):
        sharing = Sharing([("b", ("a", "b")), ("a", ("c",)), ("d", ("d",))])
        desks = ("a", "b", "c", "d")
        self.assert_sharing(sharing, ("b", "a", "d"), desks, {"b": ("a", "b"), "a": ("c",), "d": ("d",)})

    def test_asked_again_it_tells_the_same(self):
        sharing = Sharing(list(SHOP))
        for again in range(3):
            self.assert_shop(sharing)
            self.assert_shop(Sharing(list(SHOP)))


class Copies(SharingCase):
    def test_the_list_handed_in_is_as_it_was(self):
        rows = list(SHOP)
        sharing = Sharing(rows)
        sharing.meet("pay")
        apart(sharing, "pay", "pack")
        self.assertEqual(rows, SHOP)
        self.assertEqual(len(rows), 4)

    def test_the_list_is_as_it_was_behind_a_refusal(self):
        rows = [("b", ("y", "x")), ("a", ("y", "x", "y"))]
        kept = copy.deepcopy(rows)
        self.assertRaises(Twice, Sharing, rows)
        self.assertEqual(rows, kept)

    def test_the_list_added_to_behind_the_making(self):
        rows = list(SHOP)
        sharing = Sharing(rows)
        rows.append(("more", ("attic",)))
        self.assert_shop(sharing)
        self.assertRaises(NoLetter, sharing.meet, "more")

    def test_the_list_emptied_behind_the_making(self):
        rows = list(SHOP)
        sharing = Sharing(rows)
        rows.clear()
        self.assert_shop(sharing)
        self.assertIs(apart(sharing, "pay", "pack"), True)

    def test_the_list_written_over_behind_the_making(self):
        rows = list(SHOP)
        sharing = Sharing(rows)
        rows[0] = ("pay", ("store",))
        rows.reverse()
        self.assert_shop(sharing)
        self.assertIs(apart(sharing, "pay", "pack"), True)

    def test_another_sharing_changes_nothing(self):
        sharing = Sharing(list(SHOP))
        other = Sharing([("pay", ("attic",)), ("pack", ("attic",)), ("new", ("till",))])
        self.assert_shop(sharing)
        self.assertIs(apart(sharing, "pay", "pack"), True)
        self.assertIs(apart(other, "pay", "pack"), False)
        self.assertRaises(NoLetter, sharing.meet, "new")
        self.assertRaises(NoLetter, other.meet, "send")
        meets = {"pay": ("attic",), "pack": ("attic",), "new": ("till",)}
        self.assert_sharing(other, ("pay", "pack", "new"), ("attic", "till"), meets)

    def test_two_made_of_one_list(self):
        rows = list(SHOP)
        first = Sharing(rows)
        del rows[3]
        second = Sharing(rows)
        self.assert_shop(first)
        self.assertEqual(second.letters, ("pay", "pack", "send"))
        self.assertRaises(NoLetter, second.meet, "audit")

    def test_a_refused_one_changes_nothing(self):
        sharing = Sharing(list(SHOP))
        self.assertRaises(Twice, Sharing, [("pay", ("attic",)), ("pay", ("attic",))])
        self.assert_shop(sharing)
        self.assert_shop(Sharing(list(SHOP)))


class RefusedTwice(SharingCase):
    def assert_twice(self, rows, name):
        for again in range(2):
            with self.assertRaises(MeetError) as taken:
                Sharing(list(rows))
            self.assertIs(taken.exception.__class__, Twice)
            self.assertEqual(taken.exception.name, name)

    def test_a_letter_at_the_first_places(self):
        self.assert_twice([("a", ("x",)), ("a", ("y",))], "a")
        self.assert_twice([("a", ("x",)), ("a", ("x",)), ("b", ("x",)), ("c", ("y",))], "a")

    def test_a_letter_at_the_last_places(self):
        self.assert_twice([("a", ("x",)), ("b", ("y",)), ("c", ("x",)), ("d", ("y",)), ("d", ("z",))], "d")

    def test_a_letter_at_the_first_and_the_last_place(self):
        self.assert_twice([("a", ("x",)), ("b", ("y",)), ("c", ("z",)), ("d", ("w",)), ("a", ("x",))], "a")

    def test_of_several_letters_the_first_that_came_again(self):
        self.assert_twice([("a", ("x",)), ("b", ("x",)), ("b", ("x",)), ("a", ("x",))], "b")
        self.assert_twice([("b", ("x",)), ("a", ("x",)), ("b", ("x",)), ("a", ("x",))], "b")

    def test_a_desk_at_the_first_and_the_last_places(self):
        self.assert_twice([("a", ("x", "x"))], "x")
        self.assert_twice([("a", ("x", "x", "y", "z"))], "x")
        self.assert_twice([("a", ("y", "z", "x", "x"))], "x")
        self.assert_twice([("a", ("x", "y", "z", "x"))], "x")

    def test_a_desk_at_the_first_and_the_last_letter(self):
        self.assert_twice([("a", ("x", "y", "x")), ("b", ("x",)), ("c", ("y",))], "x")
        self.assert_twice([("a", ("x",)), ("b", ("x",)), ("c", ("y", "x", "y"))], "y")

    def test_of_several_desks_the_first_that_came_again(self):
        self.assert_twice([("a", ("x", "y", "y", "x"))], "y")
        self.assert_twice([("a", ("y", "x", "x", "y"))], "x")
        self.assert_twice([("a", ("y", "x", "y", "x"))], "y")

    def test_of_desks_at_several_letters_the_first_letter_s(self):
        self.assert_twice([("a", ("y", "y")), ("b", ("x", "x"))], "y")
        self.assert_twice([("b", ("z",)), ("c", ("z", "z")), ("a", ("y", "y"))], "z")

    def test_the_letter_ahead_of_its_own_desks(self):
        self.assert_twice([("m", ("x",)), ("m", ("a", "a"))], "m")
        self.assert_twice([("b", ("x",)), ("c", ("x",)), ("c", ("z", "z"))], "c")

    def test_an_earlier_row_s_desks_ahead_of_a_later_letter(self):
        self.assert_twice([("a", ("x", "x")), ("a", ("y",))], "x")
        self.assert_twice([("a", ("y",)), ("b", ("z", "z")), ("a", ("y",))], "z")
        self.assert_twice([("a", ("x", "x")), ("a", ("y", "y"))], "x")

    def test_an_earlier_letter_ahead_of_a_later_row_s_desks(self):
        self.assert_twice([("m", ("x",)), ("m", ("y",)), ("n", ("a", "a"))], "m")

    def test_names_called_alike(self):
        self.assert_twice([("a", ("b",)), ("b", ("a", "b", "a"))], "a")
        self.assert_twice([("a", ("a", "a"))], "a")
        self.assert_twice([("x", ("x",)), ("y", ("x",)), ("x", ("y",))], "x")

    def test_one_desk_at_two_letters_is_let_by(self):
        sharing = Sharing([("a", ("x", "y")), ("b", ("y", "x")), ("c", ("x",))])
        self.assert_sharing(sharing, ("a", "b", "c"), ("x", "y"), {"a": ("x", "y"), "b": ("x", "y"), "c": ("x",)})

    def test_a_desk_called_like_its_letter_is_let_by(self):
        self.assert_sharing(Sharing([("a", ("a",))]), ("a",), ("a",), {"a": ("a",)})
        sharing = Sharing([("a", ("b", "a")), ("b", ("b", "a"))])
        self.assert_sharing(sharing, ("a", "b"), ("a", "b"), {"a": ("a", "b"), "b": ("a", "b")})

    def test_a_desk_called_like_another_letter_is_let_by(self):
        sharing = Sharing([("a", ("b",)), ("b", ("c",)), ("c", ("a",))])
        self.assert_sharing(sharing, ("a", "b", "c"), ("a", "b", "c"), {"a": ("b",), "b": ("c",), "c": ("a",)})

    def test_names_that_begin_alike_are_not_the_same(self):
        sharing = Sharing([("a", ("x", "xx")), ("aa", ("xx", "xxx"))])
        self.assert_sharing(sharing, ("a", "aa"), ("x", "xx", "xxx"), {"a": ("x", "xx"), "aa": ("xx", "xxx")})


class Apart(SharingCase):
    def assert_apart(self, sharing, one, other, told):
        self.assertIs(apart(sharing, one, other), told)
        self.assertIs(apart(sharing, other, one), told)

    def test_no_desk_in_common(self):
        sharing = Sharing(list(SHOP))
        self.assert_apart(sharing, "pay", "pack", True)
        self.assert_apart(sharing, "pack", "audit", True)
        self.assert_apart(sharing, "send", "audit", True)

    def test_a_desk_in_common(self):
        sharing = Sharing(list(SHOP))
        self.assert_apart(sharing, "pay", "send", False)
        self.assert_apart(sharing, "pay", "audit", False)
        self.assert_apart(sharing, "pack", "send", False)

    def test_a_letter_is_never_apart_from_itself(self):
        for rows in (SHOP, FULL, [("a", ("x",))]):
            sharing = Sharing(list(rows))
            for letter in sharing.letters:
                self.assertIs(apart(sharing, letter, letter), False)

    def test_the_same_desks(self):
        self.assert_apart(Sharing([("a", ("x", "y")), ("b", ("y", "x"))]), "a", "b", False)

    def test_one_in_common_at_any_place(self):
        for shared in ("a", "b", "c", "d"):
            sharing = Sharing([("m", ("d", "c", "b", "a")), ("n", (shared,))])
            self.assert_apart(sharing, "m", "n", False)
        self.assert_apart(Sharing([("m", ("b", "a")), ("n", ("c", "b"))]), "m", "n", False)
        self.assert_apart(Sharing([("m", ("b", "a")), ("n", ("c", "d"))]), "m", "n", True)

    def test_a_third_letter_joins_nothing(self):
        sharing = Sharing([("m", ("x",)), ("n", ("y",)), ("o", ("x", "y"))])
        self.assert_apart(sharing, "m", "n", True)
        self.assert_apart(sharing, "m", "o", False)

    def test_letters_and_desks_called_alike(self):
        sharing = Sharing([("a", ("b",)), ("b", ("a",))])
        self.assert_apart(sharing, "a", "b", True)

    def test_desks_that_begin_alike(self):
        sharing = Sharing([("a", ("x",)), ("b", ("xx",)), ("c", ("axb",))])
        self.assert_apart(sharing, "a", "b", True)
        self.assert_apart(sharing, "a", "c", True)

    def test_every_two_of_six(self):
        sharing = Sharing(list(FULL))
        told = [pair for pair in itertools.combinations("abcdef", 2) if apart(sharing, *pair)]
        due = ["bc", "bd", "bf", "ce", "de", "df", "ef"]
        self.assertEqual(told, [tuple(pair) for pair in due])
        for one, other in itertools.combinations("abcdef", 2):
            self.assert_apart(sharing, one, other, one + other in due)

    def test_asked_again_it_tells_the_same(self):
        sharing = Sharing(list(SHOP))
        for again in range(3):
            self.assert_apart(sharing, "pay", "pack", True)
            self.assert_apart(sharing, "pay", "send", False)
        self.assert_shop(sharing)


class RefusedNoLetter(SharingCase):
    def assert_no_letter(self, letter, asked, *told):
        for again in range(2):
            with self.assertRaises(MeetError) as taken:
                asked(*told)
            self.assertIs(taken.exception.__class__, NoLetter)
            self.assertEqual(taken.exception.letter, letter)

    def test_meet(self):
        sharing = Sharing(list(SHOP))
        for strange in ("lend", "pa", "payy", "sendsend", "z"):
            self.assert_no_letter(strange, sharing.meet, strange)
        self.assert_shop(sharing)

    def test_a_desk_is_no_letter(self):
        sharing = Sharing(list(SHOP))
        for desk in sharing.desks:
            self.assert_no_letter(desk, sharing.meet, desk)
            self.assert_no_letter(desk, apart, sharing, desk, "pay")
            self.assert_no_letter(desk, apart, sharing, "pay", desk)
            self.assert_no_letter(desk, apart, sharing, desk, desk)

    def test_apart_at_the_first_place(self):
        sharing = Sharing(list(SHOP))
        for letter in sharing.letters:
            self.assert_no_letter("lend", apart, sharing, "lend", letter)

    def test_apart_at_the_second_place(self):
        sharing = Sharing(list(SHOP))
        for letter in sharing.letters:
            self.assert_no_letter("lend", apart, sharing, letter, "lend")

    def test_apart_at_both_the_first_one(self):
        sharing = Sharing(list(SHOP))
        self.assert_no_letter("lend", apart, sharing, "lend", "give")
        self.assert_no_letter("give", apart, sharing, "give", "lend")
        self.assert_no_letter("lend", apart, sharing, "lend", "till")
        self.assert_no_letter("till", apart, sharing, "till", "lend")

    def test_a_strange_letter_beside_itself(self):
        self.assert_no_letter("lend", apart, Sharing(list(SHOP)), "lend", "lend")

    def test_the_smallest_sharing(self):
        sharing = Sharing([("a", ("x",))])
        self.assert_no_letter("x", sharing.meet, "x")
        self.assert_no_letter("b", apart, sharing, "a", "b")
        self.assert_no_letter("b", apart, sharing, "b", "a")

    def test_it_changes_nothing(self):
        sharing = Sharing(list(SHOP))
        self.assert_no_letter("lend", sharing.meet, "lend")
        self.assert_no_letter("lend", apart, sharing, "lend", "pay")
        self.assert_shop(sharing)
        self.assertIs(apart(sharing, "pay", "pack"), True)
        self.assert_no_letter("lend", sharing.meet, "lend")


if __name__ == "__main__":
    unittest.main()
