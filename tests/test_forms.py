"""Forms of rows: points 2, 7, 12, 14 and 15, and the interface's meetdesks/forms.py."""

import copy
import itertools
import random
import unittest

from meetdesks.errors import MeetError, NoLetter
from meetdesks.forms import layers, least_row, same, way
from meetdesks.sharing import Sharing

# A line of desks; the letters' order is not the alphabet's.
LINE = [("z", ("p", "q")), ("m", ("q", "r")), ("a", ("r", "s")), ("b", ("p",)), ("y", ("s",))]
FULL = [("f", ("w",)), ("b", ("z", "x")), ("d", ("y",)), ("a", ("z", "y", "x", "w")), ("e", ("x",)), ("c", ("w", "y"))]
ALONE = [("b", ("x",)), ("a", ("x",))]
APART = [("c", ("x",)), ("a", ("y",)), ("b", ("z",))]
THREE = [("bc", ("b", "c")), ("c", ("c",)), ("ab", ("a", "b")), ("a", ("a",))]
HOUSES = (LINE, FULL, ALONE, APART, THREE)


def are_apart(rows, one, other):
    return not set(dict(rows)[one]) & set(dict(rows)[other])


def exchanged(row, at):
    return row[:at] + [row[at + 1], row[at]] + row[at + 2:]


def one_history(rows, row):
    """All rows that come of this one by exchanges of neighbours that are apart, as tuples."""
    seen = {tuple(row)}
    coming = [list(row)]
    while coming:
        now = coming.pop()
        for at in range(len(now) - 1):
            if are_apart(rows, now[at], now[at + 1]):
                other = exchanged(now, at)
                if tuple(other) not in seen:
                    seen.add(tuple(other))
                    coming.append(other)
    return seen


def by_order(rows):
    places = {letter: at for at, (letter, desks) in enumerate(rows)}
    return lambda row: [places[letter] for letter in row]


def plain_layers(rows, row):
    """The layers by point 14's words; under it is what a chain leads from."""
    names = dict(rows)
    under = []
    layer = []
    for number, letter in enumerate(row):
        mine = set()
        for lower in range(number):
            if set(names[row[lower]]) & set(names[letter]):
                mine |= {lower} | under[lower]
        under.append(mine)
        layer.append(max([layer[lower] for lower in mine], default=0) + 1)
    told = []
    for number in range(1, max(layer, default=0) + 1):
        told.append([letter for letter, desks in rows if letter in [x for x, at in zip(row, layer) if at == number]])
    return told


def shuffled(rows, row, chance, many):
    """A row that is one history with it, by many exchanges at places drawn."""
    row = list(row)
    for turn in range(many):
        at = chance.randrange(len(row) - 1)
        if are_apart(rows, row[at], row[at + 1]):
            row = exchanged(row, at)
    return row


def numbered(row):
    """The letters with their numbers: the first of a letter is the first, and so on."""
    return [(letter, row[:at].count(letter)) for at, letter in enumerate(row)]


def turned_pairs(one, other):
    """How many pairs of meetings stand the other way round in the other row."""
    places = {meeting: at for at, meeting in enumerate(numbered(other))}
    order = [places[meeting] for meeting in numbered(one)]
    return sum([first > second for first, second in itertools.combinations(order, 2)])


def short_rows(rows, most):
    letters = [letter for letter, desks in rows]
    for many in range(most + 1):
        for row in itertools.product(letters, repeat=many):
            yield list(row)


def long_rows(rows, seed, many, length):
    chance = random.Random(seed)
    letters = [letter for letter, desks in rows]
    for number in range(many):
        yield [chance.choice(letters) for place in range(length)]


class FormsCase(unittest.TestCase):
    def assert_no_letter(self, letter, asked, *told):
        for again in range(2):
            with self.assertRaises(MeetError, msg=repr(told)) as taken:
                asked(*told)
            self.assertIs(taken.exception.__class__, NoLetter, repr(told))
            self.assertEqual(taken.exception.letter, letter, repr(told))


class Layers(FormsCase):
    def test_the_row_without_letters(self):
        for rows in HOUSES:
            self.assertEqual(layers(Sharing(list(rows)), []), [])

    def test_rows(self):
        line = Sharing(list(LINE))
        self.assertEqual(layers(line, ["z"]), [["z"]])
        self.assertEqual(layers(line, ["z", "m", "a"]), [["z"], ["m"], ["a"]])
        self.assertEqual(layers(line, ["z", "a", "m"]), [["z", "a"], ["m"]])
        self.assertEqual(layers(line, ["z", "b", "y", "a"]), [["z", "y"], ["a", "b"]])
        self.assertEqual(layers(line, ["b", "b", "b", "y"]), [["b", "y"], ["b"], ["b"]])

    def test_a_late_letter_in_the_first_layer(self):
        self.assertEqual(layers(Sharing(list(LINE)), ["b"] * 59 + ["y"]), [["b", "y"]] + [["b"]] * 58)

    def test_a_layer_s_letters_in_the_sharing_s_order(self):
        for told in itertools.permutations("cab"):
            self.assertEqual(layers(Sharing(list(APART)), list(told)), [["c", "a", "b"]])
        for rows in itertools.permutations(APART):
            self.assertEqual(layers(Sharing(list(rows)), ["a", "b", "c"]), [[letter for letter, desks in rows]])

    def test_one_desk(self):
        row = ["a", "b", "b"] * 20
        self.assertEqual(layers(Sharing(list(ALONE)), row), [[letter] for letter in row])

    def test_held_against_chains(self):
        for rows, most in ((LINE, 5), (FULL, 4), (ALONE, 5), (APART, 6), (THREE, 5)):
            sharing = Sharing(list(rows))
            for row in itertools.chain(short_rows(rows, most), long_rows(rows, 1, 10, 60), long_rows(rows, 2, 10, 25)):
                self.assertEqual(layers(sharing, row), plain_layers(rows, row), row)

    def test_the_same_for_one_history(self):
        chance = random.Random(3)
        for rows in HOUSES:
            sharing = Sharing(list(rows))
            for row in long_rows(rows, 4, 5, 30):
                self.assertEqual(layers(sharing, shuffled(rows, row, chance, 300)), layers(sharing, row))

    def test_lists_of_lists(self):
        told = layers(Sharing(list(LINE)), ["z", "a", "m"])
        self.assertIs(told.__class__, list)
        for layer in told:
            self.assertIs(layer.__class__, list)

    def test_the_lists_are_the_asker_s_own(self):
        line = Sharing(list(LINE))
        row = ["z", "a", "m"]
        told = layers(line, row)
        told[0].append("q")
        told[1][0] = "q"
        told.append(["z"])
        self.assertEqual(layers(line, row), [["z", "a"], ["m"]])
        self.assertEqual(row, ["z", "a", "m"])
        layers(line, []).append(["z"])
        self.assertEqual(layers(line, []), [])

    def test_strange_letters(self):
        line = Sharing(list(LINE))
        for at in range(60):
            row = ["z", "m", "a", "b"] * 15
            row[at] = "x"
            self.assert_no_letter("x", layers, line, row)
        self.assert_no_letter("k", layers, line, ["z", "k", "x"])
        self.assert_no_letter("p", layers, line, ["p", "k"])


class LeastRow(FormsCase):
    def test_the_row_without_letters(self):
        for rows in HOUSES:
            self.assertEqual(least_row(Sharing(list(rows)), []), [])

    def test_rows(self):
        line = Sharing(list(LINE))
        self.assertEqual(least_row(line, ["a", "z"]), ["z", "a"])
        self.assertEqual(least_row(line, ["z", "a"]), ["z", "a"])
        self.assertEqual(least_row(line, ["a", "m", "z"]), ["a", "m", "z"])
        self.assertEqual(least_row(line, ["y", "b", "a", "z"]), ["b", "z", "y", "a"])
        self.assertEqual(least_row(line, ["b", "m"]), ["m", "b"])

    def test_the_sharing_s_order_counts_not_the_alphabet(self):
        for rows in itertools.permutations(APART):
            due = [letter for letter, desks in rows]
            for told in itertools.permutations("abc"):
                self.assertEqual(least_row(Sharing(list(rows)), list(told)), due)

    def test_more_than_sorting_neighbours(self):
        # Of b z a no exchange of two neighbours makes a row ahead of it, but two of them do.
        line = Sharing(list(LINE))
        self.assertEqual(least_row(line, ["b", "z", "a"]), ["a", "b", "z"])
        for row in short_rows(LINE, 4):
            due = min(map(list, one_history(LINE, row)), key=by_order(LINE))
            self.assertEqual(least_row(line, row), due, row)

    def test_held_against_all_rows_of_one_history(self):
        for rows, most in ((FULL, 4), (ALONE, 5), (APART, 5), (THREE, 6)):
            sharing = Sharing(list(rows))
            for row in short_rows(rows, most):
                due = min(map(list, one_history(rows, row)), key=by_order(rows))
                self.assertEqual(least_row(sharing, row), due, row)
        for rows in HOUSES:
            for row in long_rows(rows, 5, 12, 7):
                due = min(map(list, one_history(rows, row)), key=by_order(rows))
                self.assertEqual(least_row(Sharing(list(rows)), row), due, row)

    def test_of_a_least_row_it_is_itself(self):
        for rows in HOUSES:
            sharing = Sharing(list(rows))
            for row in itertools.chain(long_rows(rows, 6, 10, 60), short_rows(rows, 3)):
                told = least_row(sharing, row)
                self.assertEqual(least_row(sharing, told), told)

    def test_sixty_letters(self):
        chance = random.Random(7)
        for rows in HOUSES:
            sharing = Sharing(list(rows))
            key = by_order(rows)
            for row in long_rows(rows, 8, 6, 60):
                told = least_row(sharing, row)
                for desk in sharing.desks:
                    mine = [letter for letter in row if desk in dict(rows)[letter]]
                    self.assertEqual([letter for letter in told if desk in dict(rows)[letter]], mine)
                # No letter could come ahead of an earlier place's later letter.
                for late in range(60):
                    for early in range(late - 1, -1, -1):
                        if not are_apart(rows, told[early], told[late]):
                            break
                        self.assertLess(key([told[early]]), key([told[late]]))
                self.assertEqual(least_row(sharing, shuffled(rows, row, chance, 400)), told)

    def test_all_apart_are_sorted(self):
        row = ["b", "a", "c"] * 20
        self.assertEqual(least_row(Sharing(list(APART)), row), ["c"] * 20 + ["a"] * 20 + ["b"] * 20)

    def test_one_desk_s_row_stays(self):
        row = ["a", "b", "b"] * 20
        self.assertEqual(least_row(Sharing(list(ALONE)), row), row)

    def test_the_list_is_the_asker_s_own(self):
        line = Sharing(list(LINE))
        for row in ([], ["z"], ["z", "a"], ["a", "z"]):
            kept = list(row)
            told = least_row(line, row)
            self.assertIs(told.__class__, list)
            self.assertIsNot(told, row)
            told.append("y")
            self.assertEqual(row, kept)
            self.assertEqual(least_row(line, row), sorted(kept, reverse=True))

    def test_strange_letters(self):
        line = Sharing(list(LINE))
        for at in range(60):
            row = ["z", "m", "a", "b"] * 15
            row[at] = "x"
            self.assert_no_letter("x", least_row, line, row)
        self.assert_no_letter("k", least_row, line, ["z", "k", "x"])
        self.assert_no_letter("p", least_row, line, ["p", "k"])


class Same(FormsCase):
    def assert_same(self, rows, one, other, told):
        sharing = Sharing(list(rows))
        for again in range(2):
            self.assertIs(same(sharing, one, other), told, (one, other))
            self.assertIs(same(sharing, other, one), told, (one, other))

    def test_held_against_exchanges(self):
        for rows, most in ((LINE, 3), (APART, 4), (ALONE, 4), (THREE, 4)):
            sharing = Sharing(list(rows))
            for many in range(most + 1):
                for one in itertools.product([letter for letter, desks in rows], repeat=many):
                    due = one_history(rows, list(one))
                    for other in itertools.product([letter for letter, desks in rows], repeat=many):
                        self.assertIs(same(sharing, list(one), list(other)), other in due, (one, other))

    def test_each_with_itself(self):
        for rows in HOUSES:
            for row in itertools.chain(short_rows(rows, 3), long_rows(rows, 9, 5, 60)):
                self.assertIs(same(Sharing(list(rows)), row, row), True)
                self.assertIs(same(Sharing(list(rows)), row, list(row)), True)

    def test_by_many_exchanges(self):
        chance = random.Random(10)
        for rows in HOUSES:
            for row in long_rows(rows, 11, 8, 60):
                self.assert_same(rows, row, shuffled(rows, row, chance, 500), True)

    def test_two_exchanged_that_are_not_apart(self):
        self.assert_same(LINE, ["z", "m"], ["m", "z"], False)
        chance = random.Random(12)
        for row in long_rows(LINE, 13, 10, 60):
            for at in range(59):
                if row[at] != row[at + 1]:
                    due = are_apart(LINE, row[at], row[at + 1])
                    self.assert_same(LINE, row, shuffled(LINE, exchanged(row, at), chance, 20), due)

    def test_a_letter_more_or_fewer(self):
        self.assert_same(LINE, [], ["z"], False)
        for row in long_rows(LINE, 14, 5, 30):
            for at in (0, 7, 29, 30):
                for letter in "zmaby":
                    self.assert_same(LINE, row, row[:at] + [letter] + row[at:], False)
        self.assert_same(LINE, ["z"] * 3, ["z"] * 2, False)

    def test_another_letter(self):
        # b and z are both p's, y and a both s's.
        self.assert_same(LINE, ["b", "y"], ["b", "a"], False)
        self.assert_same(LINE, ["z"], ["b"], False)
        self.assert_same(LINE, ["b", "y", "b"], ["y", "b", "y"], False)
        for row in long_rows(FULL, 15, 3, 20):
            for at in range(20):
                for letter in "abcdef":
                    other = row[:at] + [letter] + row[at + 1:]
                    self.assert_same(FULL, row, other, letter == row[at])

    def test_letters_of_the_same_desks(self):
        rows = [("a", ("x", "y")), ("b", ("y", "x")), ("c", ("z",))]
        self.assert_same(rows, ["a", "b"], ["b", "a"], False)
        self.assert_same(rows, ["a", "c", "b"], ["c", "a", "b"], True)

    def test_what_was_handed_in_is_as_it_was(self):
        line = Sharing(list(LINE))
        one, other = ["z", "a", "b"], ["a", "z", "b"]
        same(line, one, other)
        self.assertEqual((one, other), (["z", "a", "b"], ["a", "z", "b"]))

    def test_strange_letters(self):
        line = Sharing(list(LINE))
        for asked in (same, way):
            self.assert_no_letter("x", asked, line, ["x"], [])
            self.assert_no_letter("x", asked, line, [], ["x"])
            self.assert_no_letter("x", asked, line, ["x"], ["x"])
            self.assert_no_letter("k", asked, line, ["z", "k"], ["x", "z"])
            self.assert_no_letter("x", asked, line, ["z", "x", "k"], ["k", "z"])
            self.assert_no_letter("x", asked, line, ["z", "m"], ["m", "x", "k"])
            self.assert_no_letter("x", asked, line, ["z", "m"], ["z", "m", "x"])
            self.assert_no_letter("x", asked, line, ["z", "m", "x"], ["z", "m"])
            self.assert_no_letter("p", asked, line, ["z", "p"], ["z", "z"])
            self.assert_no_letter("x", asked, line, ["m", "z"], ["z", "m", "x"])
            for at in range(60):
                row = ["z", "m", "a", "b"] * 15
                row[at] = "x"
                self.assert_no_letter("x", asked, line, row, ["z", "m", "a", "b"] * 15)
                self.assert_no_letter("x", asked, line, ["z", "m", "a", "b"] * 15, row)


class Way(FormsCase):
    def assert_way(self, rows, one, other):
        sharing = Sharing(list(rows))
        kept = copy.deepcopy((one, other))
        places = way(sharing, one, other)
        self.assertIs(places.__class__, list)
        self.assertEqual((one, other), kept)
        self.assertEqual(len(places), turned_pairs(one, other), (one, other))
        now = list(one)
        for at in places:
            self.assertIs(at.__class__, int)
            self.assertTrue(0 <= at < len(now) - 1, (one, other, places))
            self.assertTrue(are_apart(rows, now[at], now[at + 1]), (one, other, places))
            now = exchanged(now, at)
        self.assertEqual(now, other)
        self.assertEqual(way(sharing, one, other), places)

    def test_none_where_nothing_is_turned(self):
        for rows in HOUSES:
            for row in itertools.chain(short_rows(rows, 2), long_rows(rows, 16, 3, 60)):
                self.assertEqual(way(Sharing(list(rows)), row, list(row)), [])
                self.assertEqual(way(Sharing(list(rows)), row, row), [])

    def test_one_exchange(self):
        line = Sharing(list(LINE))
        self.assertEqual(way(line, ["z", "a"], ["a", "z"]), [0])
        self.assertEqual(way(line, ["m", "z", "a"], ["m", "a", "z"]), [1])
        self.assertEqual(way(line, ["z", "a", "a"], ["a", "z", "a"]), [0])

    def test_two_exchanges(self):
        line = Sharing(list(LINE))
        self.assertEqual(way(line, ["y", "b", "z"], ["b", "z", "y"]), [0, 1])
        self.assertEqual(way(line, ["b", "z", "y"], ["y", "b", "z"]), [1, 0])

    def test_one_letter_several_times(self):
        self.assert_way(APART, ["a"] * 5 + ["b"] * 5, ["b"] * 5 + ["a"] * 5)
        self.assert_way(APART, ["a", "b"] * 10, ["b", "a"] * 10)
        self.assert_way(APART, ["a", "b", "c"] * 20, ["c"] * 20 + ["b"] * 20 + ["a"] * 20)
        self.assert_way(APART, ["a", "a", "b", "a"], ["b", "a", "a", "a"])

    def test_held_against_all_rows_of_one_history(self):
        for rows, most in ((LINE, 4), (APART, 5), (THREE, 5), (FULL, 3)):
            for row in short_rows(rows, most):
                for other in sorted(one_history(rows, row)):
                    self.assert_way(rows, row, list(other))

    def test_there_and_back_over_long_rows(self):
        chance = random.Random(17)
        for rows in HOUSES:
            for row in long_rows(rows, 18, 8, 60):
                other = shuffled(rows, row, chance, 1500)
                self.assert_way(rows, row, other)
                self.assert_way(rows, other, row)
                self.assertEqual(len(way(Sharing(list(rows)), row, other)), len(way(Sharing(list(rows)), other, row)))

    def test_not_one_history(self):
        line = Sharing(list(LINE))
        for one, other in (("zm", "mz"), ("", "z"), ("z", "a"), ("z", "b"), ("by", "bb"), ("zz", "z"), ("azm", "amz"),
                           ("baz", "zab")):
            self.assertIsNone(way(line, list(one), list(other)))
            self.assertIsNone(way(line, list(other), list(one)))

    def test_none_just_where_they_are_not_one_history(self):
        for rows, most in ((LINE, 3), (THREE, 3), (APART, 4)):
            sharing = Sharing(list(rows))
            for one, other in itertools.product(list(short_rows(rows, most)), repeat=2):
                self.assertIs(way(sharing, one, other) is None, not same(sharing, one, other))

    def test_the_list_is_the_asker_s_own(self):
        line = Sharing(list(LINE))
        for one, other in ((["z", "a"], ["a", "z"]), ([], []), (["z"], ["z"])):
            told = way(line, one, other)
            kept = list(told)
            told.append(5)
            self.assertEqual(way(line, one, other), kept)


if __name__ == "__main__":
    unittest.main()
