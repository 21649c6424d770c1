"""Tables' texts: points 2 and 32, and the interface's meetdesks/tabletext.py."""

import itertools
import random
import unittest

from meetdesks.errors import MeetError, NoText, TooMany
from meetdesks.sharing import Sharing
from meetdesks.tables import Tables, places_at, tables_let, tables_of
from meetdesks.tabletext import read_tables, show_tables
from plain import ALONE, APART, PAIR, RING, some_quiet_machine, some_sharing

SMALL_MOVES = {
    ("a", (10,)): (0,), ("a", (9,)): (10,), ("a", (0,)): (9,),
    ("m", (2, 10)): (0, 0), ("m", (10, 2)): (1, 1), ("m", (2, 9)): (9999, 0), ("m", (0, 0)): (2, 10),
    ("b", (1,)): (1,),
}
SMALL_GOOD = [(10, 0), (0, 0), (2, 10), (2, 9)]
SMALL = [
    "m 0 0 to 2 10", "m 2 9 to 9999 0", "m 2 10 to 0 0", "m 10 2 to 1 1", "b 1 to 1", "a 0 to 9", "a 9 to 10",
    "a 10 to 0",
    "good 0 0", "good 2 9", "good 2 10", "good 10 0",
]

# Rows that are none with the sharing of m (x, y), b (y) and a (x).
NO_ROWS = [
    "", " ", "a", "a ", "a 0", "a 0 to", "a 0 to ", "a to 0", "a to", "a 0 1", "a 0 1 to 0", "a 0 to 0 1",
    "a 0 0 to 0 0",
    " a 0 to 0", "a  0 to 0", "a 0  to 0", "a 0 to  0", "a 0 to 0 ", "a 0 to to 0", "a 0 to 0 to 0", "a to 0 to 0",
    "a 0 To 0", "a 0 too 0", "a 0 -> 0", "a 0 t 0", "A 0 to 0", "c 0 to 0", "x 0 to 0", "to 0 to 0", "ab 0 to 0",
    "a 00 to 0", "a 0 to 00", "a 01 to 0", "a 0 to 01", "a 0 to 0001", "a 10000 to 0", "a 0 to 10000", "a 0 to 12345",
    "a -1 to 0", "a 0 to -1", "a +1 to 0", "a x to 0", "a 0 to x", "a 0x to 0", "a 1_0 to 0", "a 0.0 to 0",
    "a 0,0 to 0",
    "m 0 to 0", "m 0 0 to 0", "m 0 to 0 0", "m 0 0 0 to 0", "m 0 0 0 to 0 0 0", "m 0 to 0 0 0", "m 0 0 0 0", "m 0 0 to",
    "m to 0 0 0 0", "m 0 0 0 0 to", "m 0 0 to 0 0 0", "m 0 0 to 0 00", "m 0 00 to 0 0", "m 0 0 to 10000 0",
    "b 0 0 to 0 0", "b 0 to 0 0", "b 0", "b", "0 to 0", "0", "to",
    "good", "good ", "good 0", "good 0 ", "good 0 0 0", " good 0 0", "good  0 0", "good 0  0", "good 0 0 ", "Good 0 0",
    "good 00 0", "good 0 00", "good 01 0", "good 0 10000", "good 0 12345", "good -1 0", "good 0 +1", "good 0 x",
    "good 0 to 0", "good 0 0 to 0 0", "good to 0", "good 0 to", "plain 0 0", "goods 0 0", "goo 0 0", "good0 0",
    "good 0,0",
    "0 0", "~", "good ~ 0", "a 0 to ~", "a/0 to 0",
]


def pair():
    return Sharing(list(PAIR))


class TextCase(unittest.TestCase):
    def assert_tables(self, tables, moves, good):
        self.assertIsInstance(tables, Tables)
        self.assertEqual(tables.moves, moves)
        self.assertEqual(tables.good, good)
        for after in tables.moves.values():
            self.assertIs(after.__class__, tuple)
        for letter, ahead in tables.moves:
            self.assertIs(ahead.__class__, tuple)

    def assert_no_text(self, sharing, text, line):
        for again in range(2):
            with self.assertRaises(MeetError, msg=repr(text)) as taken:
                read_tables(sharing, text)
            self.assertIs(taken.exception.__class__, NoText, repr(text))
            self.assertEqual(taken.exception.line, line, repr(text))


class Shown(TextCase):
    def test_sorted_by_numbers(self):
        tables = Tables(pair(), dict(SMALL_MOVES), list(SMALL_GOOD))
        for again in range(2):
            self.assertEqual(show_tables(tables), "\n".join(SMALL))
        self.assertIs(show_tables(tables).__class__, str)
        self.assert_tables(tables, SMALL_MOVES, sorted(SMALL_GOOD))

    def test_whatever_order_the_keys_came_in(self):
        chance = random.Random(1)
        for turn in range(30):
            moves, good = list(SMALL_MOVES.items()), list(SMALL_GOOD)
            chance.shuffle(moves)
            chance.shuffle(good)
            self.assertEqual(show_tables(Tables(pair(), dict(moves), good)), "\n".join(SMALL))

    def test_letters_in_the_sharing_s_order(self):
        for rows in itertools.permutations(PAIR):
            moves = {("a", (0,)): (0,), ("b", (0,)): (0,), ("m", (0, 0)): (0, 0)}
            due = [letter + (" 0 0 to 0 0" if letter == "m" else " 0 to 0") for letter, desks in rows]
            self.assertEqual(show_tables(Tables(Sharing(list(rows)), moves, [])), "\n".join(due))

    def test_no_row_at_all(self):
        self.assertEqual(show_tables(Tables(pair(), {}, [])), "")

    def test_moves_alone_and_good_alone(self):
        self.assertEqual(show_tables(Tables(pair(), {("b", (3,)): (0,)}, [])), "b 3 to 0")
        self.assertEqual(show_tables(Tables(pair(), {}, [(1, 0), (0, 1), (1, 0)])), "good 0 1\ngood 1 0")

    def test_it_counts_what_stands_in_it_when_asked(self):
        tables = Tables(pair(), {("b", (3,)): (0,)}, [])
        tables.moves[("b", (3,))] = (7,)
        tables.good.append((5, 5))
        self.assertEqual(show_tables(tables), "b 3 to 7\ngood 5 5")
        tables.moves[("b", (3,))] = (0,)
        tables.good.clear()
        self.assertEqual(show_tables(tables), "b 3 to 0")


class Read(TextCase):
    def test_a_text(self):
        self.assert_tables(read_tables(pair(), "\n".join(SMALL)), SMALL_MOVES, sorted(SMALL_GOOD))

    def test_no_row_at_all(self):
        tables = read_tables(pair(), "")
        self.assert_tables(tables, {}, [])
        self.assertEqual(show_tables(tables), "")

    def test_rows_in_any_order(self):
        chance = random.Random(2)
        for turn in range(50):
            rows = list(SMALL)
            chance.shuffle(rows)
            tables = read_tables(pair(), "\n".join(rows))
            self.assert_tables(tables, SMALL_MOVES, sorted(SMALL_GOOD))
            self.assertEqual(show_tables(tables), "\n".join(SMALL))

    def test_the_sharing_is_kept(self):
        tables = read_tables(pair(), "a 0 to 1\ngood 1 0")
        self.assertEqual((tables.sharing.letters, tables.sharing.desks), (("m", "b", "a"), ("x", "y")))
        self.assertEqual(places_at(tables, ["a"]), (1, 0))
        self.assertIs(tables_let(tables, ["a"]), True)
        self.assertIs(tables_let(tables, ["b"]), False)

    def test_figures(self):
        for place in (0, 1, 9, 10, 99, 100, 999, 1000, 9999):
            text = f"a {place} to {place}\ngood {place} {place}"
            self.assert_tables(read_tables(pair(), text), {("a", (place,)): (place,)}, [(place, place)])

    def test_letters_called_to_and_good(self):
        sharing = Sharing([("to", ("x",)), ("good", ("y",)), ("a", ("z", "x"))])
        text = "to 0 to 1\ngood 0 to 2\na 0 0 to 1 1\ngood 0 1 2\ngood 3 4 5"
        moves = {("to", (0,)): (1,), ("good", (0,)): (2,), ("a", (0, 0)): (1, 1)}
        tables = read_tables(sharing, text)
        self.assert_tables(tables, moves, [(0, 1, 2), (3, 4, 5)])
        self.assertEqual(show_tables(tables), text)
        self.assert_no_text(sharing, "good 0 to 2\ngood 0 to 3", 2)
        self.assert_no_text(sharing, "good 0 to 2\ngood 0 1 2\ngood 0 1 2", 3)
        self.assert_no_text(sharing, "to to to 1", 1)
        self.assert_no_text(sharing, "good to 0 1", 1)

    def test_a_letter_called_good_of_several_desks(self):
        # The rows of its moves have as many words as those of good have elsewhere, but the word to.
        sharing = Sharing([("good", ("x",)), ("to", ("x", "y", "z"))])
        text = "good 0 to 1\nto 0 1 2 to 3 4 5\ngood 0 1 2\ngood 0 1 3"
        tables = read_tables(sharing, text)
        self.assert_tables(tables, {("good", (0,)): (1,), ("to", (0, 1, 2)): (3, 4, 5)}, [(0, 1, 2), (0, 1, 3)])
        self.assertEqual(show_tables(tables), text)
        sharing = Sharing([("good", ("x", "y"))])
        tables = read_tables(sharing, "good 0 0\ngood 0 0 to 1 1\ngood 1 1")
        self.assert_tables(tables, {("good", (0, 0)): (1, 1)}, [(0, 0), (1, 1)])
        self.assertEqual(show_tables(tables), "good 0 0 to 1 1\ngood 0 0\ngood 1 1")
        self.assert_no_text(Sharing([("a", ("x",))]), "good 0\ngood 0 to 0", 2)

    def test_each_is_a_new_one(self):
        sharing, text = pair(), "\n".join(SMALL)
        one, other = read_tables(sharing, text), read_tables(sharing, text)
        one.moves.clear()
        one.good.clear()
        self.assert_tables(other, SMALL_MOVES, sorted(SMALL_GOOD))
        self.assert_tables(read_tables(sharing, text), SMALL_MOVES, sorted(SMALL_GOOD))

    def test_tables_that_were_told(self):
        chance = random.Random(3)
        told = 0
        for rows in [ALONE, PAIR, APART, RING] + [some_sharing(chance, most_desks=3) for turn in range(20)]:
            sharing = Sharing(list(rows))
            try:
                tables = tables_of(sharing, some_quiet_machine(chance, rows, sizes=(1, 2), most=8), 300)
            except TooMany:
                continue
            text = show_tables(tables)
            again = read_tables(sharing, text)
            self.assert_tables(again, tables.moves, tables.good)
            self.assertEqual(show_tables(again), text)
            rows = text.split("\n")
            chance.shuffle(rows)
            self.assertEqual(show_tables(read_tables(sharing, "\n".join(rows))), text)
            told += 1
        self.assertGreater(told, 12)


class Refused(TextCase):
    def test_rows_that_are_none(self):
        sharing = pair()
        for row in NO_ROWS:
            if row:
                self.assert_no_text(sharing, row, 1)
            self.assert_no_text(sharing, row + "\na 7 to 7", 1)
            for at in range(len(SMALL) + 1):
                self.assert_no_text(sharing, "\n".join(SMALL[:at] + [row] + SMALL[at:]), at + 1)

    def test_an_empty_row(self):
        self.assert_no_text(pair(), "\n", 1)
        self.assert_no_text(pair(), "\na 0 to 0", 1)
        self.assert_no_text(pair(), "a 0 to 0\n", 2)
        self.assert_no_text(pair(), "a 0 to 0\n\ngood 0 0", 2)

    def test_a_second_move_of_the_same_letter_and_places(self):
        for row in SMALL[:8]:
            ahead = row.split(" to ")[0]
            for other in (row, ahead + (" to 5 5" if row[0] == "m" else " to 5")):
                self.assert_no_text(pair(), "\n".join(SMALL + [other]), 13)
                self.assert_no_text(pair(), f"{row}\n{other}", 2)
                self.assert_no_text(pair(), f"good 7 7\n{row}\nb 8 to 8\n{other}\n{other}", 4)
        # Of another letter, or of other places, it is none such.
        self.assert_tables(read_tables(pair(), "a 0 to 1\nb 0 to 1\na 1 to 1"),
                           {("a", (0,)): (1,), ("b", (0,)): (1,), ("a", (1,)): (1,)}, [])

    def test_a_second_row_of_good(self):
        for row in SMALL[8:]:
            self.assert_no_text(pair(), "\n".join(SMALL + [row]), 13)
            self.assert_no_text(pair(), f"{row}\n{row}", 2)
            self.assert_no_text(pair(), f"a 0 to 0\n{row}\nb 8 to 8\n{row}\n{row}", 4)

    def test_of_two_rows_the_first(self):
        for one, other in itertools.permutations(["", "a 0", "a 3 to 00", "good 1", "b 1 to 1", "good 9 9", "c"], 2):
            text = f"b 1 to 1\ngood 9 9\na 5 to 5\n{one}\n{other}"
            self.assert_no_text(pair(), text, 4)
            self.assert_no_text(pair(), f"b 1 to 1\ngood 9 9\n{one}\na 5 to 5\n{other}", 3)

    def test_as_many_places_as_desks(self):
        rows = [("a", ("p",)), ("b", ("p", "q")), ("c", ("p", "q", "r")), ("d", ("p", "q", "r", "s"))]
        sharing = Sharing(rows)
        for letter, desks in rows:
            for ahead, behind in itertools.product(range(7), repeat=2):
                text = letter + " 0" * ahead + " to" + " 0" * behind
                if ahead == behind == len(desks):
                    places = (0,) * len(desks)
                    self.assert_tables(read_tables(sharing, text), {(letter, places): places}, [])
                else:
                    self.assert_no_text(sharing, text, 1)
        for many in range(7):
            text = "good" + " 0" * many
            if many == 4:
                self.assert_tables(read_tables(sharing, text), {}, [(0, 0, 0, 0)])
            else:
                self.assert_no_text(sharing, text, 1)

    def test_it_changes_nothing(self):
        sharing = pair()
        self.assert_no_text(sharing, "a 0 to 0\na 0 to 0", 2)
        self.assert_tables(read_tables(sharing, "a 0 to 0"), {("a", (0,)): (0,)}, [])
        self.assertEqual((sharing.letters, sharing.desks), (("m", "b", "a"), ("x", "y")))


if __name__ == "__main__":
    unittest.main()
