"""Houses put together: points 2 and 18, and the interface's meetdesks/together.py."""

import itertools
import random
import unittest

from meetdesks.least import both, least
from meetdesks.machine import Machine, lets_by
from meetdesks.notice import notice
from meetdesks.sharing import Sharing
from meetdesks.together import together


def fields(machine):
    return machine.letters, machine.table, machine.good


def rows_up_to(letters, most):
    for many in range(most + 1):
        for row in itertools.product(letters, repeat=many):
            yield list(row)


def own_letters(row, letters):
    return [letter for letter in row if letter in letters]


def counter(letters, many, good):
    """A machine of which each letter counts one, round and round."""
    return Machine(list(letters), [[(state + 1) % many] * len(letters) for state in range(many)], good)


def last_one(letters, letter):
    """A machine that lets by what has this letter at its end."""
    return Machine(list(letters), [[int(other == letter) for other in letters]] * 2, [1])


def some_machine(chance, letters, most):
    many = chance.randint(1, most)
    table = [[chance.randrange(many) for letter in letters] for state in range(many)]
    return Machine(list(letters), table, [state for state in range(many) if chance.random() < 0.5])


class Together(unittest.TestCase):
    def assert_sharing(self, sharing, rows):
        """Held against rows of a letter and its desks, rising."""
        self.assertIsInstance(sharing, Sharing)
        self.assertEqual(sharing.letters, tuple([letter for letter, desks in rows]))
        self.assertEqual(sharing.desks, tuple(sorted({desk for letter, desks in rows for desk in desks})))
        for letter, desks in rows:
            self.assertEqual(sharing.meet(letter), desks)

    def assert_together(self, first, machine, second, another, rows, most):
        """Houses of rows and machines; held against the rows due and both machines over all rows up to some length."""
        one, other = Sharing(list(first)), Sharing(list(second))
        kept = fields(machine), fields(another)
        told = together(one, machine, other, another)
        self.assertIs(told.__class__, tuple)
        self.assertEqual(len(told), 2)
        sharing, joined = told
        self.assert_sharing(sharing, rows)
        self.assertIsInstance(joined, Machine)
        self.assertEqual(joined.letters, sharing.letters)
        self.assertEqual(fields(joined), fields(least(joined)))
        for row in rows_up_to(joined.letters, most):
            mine = lets_by(machine, own_letters(row, machine.letters))
            theirs = lets_by(another, own_letters(row, another.letters))
            self.assertIs(lets_by(joined, row), mine and theirs, row)
        self.assertEqual((fields(machine), fields(another)), kept)
        self.assertEqual((one.letters, other.letters), (machine.letters, another.letters))
        again = together(one, machine, other, another)
        self.assert_sharing(again[0], rows)
        self.assertEqual(fields(again[1]), fields(joined))
        return told

    def test_no_letter_in_common(self):
        first = [("z", ("x",)), ("b", ("x", "w"))]
        second = [("y", ("v",)), ("a", ("v",))]
        rows = [("z", ("x",)), ("b", ("w", "x")), ("y", ("v",)), ("a", ("v",))]
        sharing, joined = self.assert_together(first, last_one("zb", "b"), second, last_one("ya", "y"), rows, 5)
        self.assertEqual(len(joined.table), 4)
        self.assertEqual(fields(joined)[1:], (((0, 1, 2, 0), (0, 1, 3, 1), (2, 3, 2, 0), (2, 3, 3, 1)), (3,)))

    def test_no_letter_but_a_desk_in_common(self):
        first = [("a", ("x", "y"))]
        second = [("b", ("y", "z"))]
        rows = [("a", ("x", "y")), ("b", ("y", "z"))]
        sharing, joined = self.assert_together(first, counter("a", 2, [1]), second, counter("b", 3, [2]), rows, 8)
        self.assertEqual(len(joined.table), 6)

    def test_some_letters_in_common(self):
        first = [("c", ("x",)), ("m", ("y", "x")), ("b", ("y",))]
        second = [("a", ("z",)), ("b", ("z", "y")), ("c", ("w",)), ("d", ("w",))]
        rows = [("c", ("w", "x")), ("m", ("x", "y")), ("b", ("y", "z")), ("a", ("z",)), ("d", ("w",))]
        self.assert_together(first, last_one("cmb", "b"), second, last_one("abcd", "b"), rows, 5)
        self.assert_together(first, counter("cmb", 3, [0, 2]), second, last_one("abcd", "c"), rows, 5)

    def test_the_second_s_letters_behind_in_its_order(self):
        for names in itertools.permutations("dab"):
            first = [("m", ("x",)), ("c", ("y",))]
            second = [(letter, ("x",)) for letter in names]
            rows = first + second
            self.assert_together(first, counter("mc", 2, [0]), second, counter(names, 2, [1]), rows, 3)

    def test_all_letters_in_common(self):
        first = [("b", ("x",)), ("a", ("y", "x"))]
        second = [("b", ("z",)), ("a", ("y",))]
        rows = [("b", ("x", "z")), ("a", ("x", "y"))]
        one, other = last_one("ba", "a"), counter("ba", 3, [0, 1])
        sharing, joined = self.assert_together(first, one, second, other, rows, 7)
        self.assertEqual(fields(joined), fields(both(one, other)))

    def test_all_letters_in_common_in_another_order(self):
        first = [("b", ("x",)), ("a", ("y",))]
        second = [("a", ("z",)), ("b", ("x",))]
        rows = [("b", ("x",)), ("a", ("y", "z"))]
        self.assert_together(first, last_one("ba", "a"), second, last_one("ab", "a"), rows, 7)
        sharing, joined = self.assert_together(first, last_one("ba", "a"), second, last_one("ab", "b"), rows, 7)
        self.assertEqual(fields(joined), (("b", "a"), ((0, 0),), ()))

    def test_the_second_s_letters_are_all_the_first_s(self):
        first = [("a", ("x",)), ("b", ("y",)), ("c", ("z",))]
        second = [("c", ("x",)), ("a", ("w",))]
        rows = [("a", ("w", "x")), ("b", ("y",)), ("c", ("x", "z"))]
        self.assert_together(first, last_one("abc", "b"), second, last_one("ca", "c"), rows, 6)

    def test_the_first_s_letters_are_all_the_second_s(self):
        first = [("c", ("x",))]
        second = [("a", ("y",)), ("c", ("y",)), ("b", ("x",))]
        rows = [("c", ("x", "y")), ("a", ("y",)), ("b", ("x",))]
        self.assert_together(first, counter("c", 2, [1]), second, last_one("acb", "b"), rows, 6)

    def test_one_house_with_itself(self):
        first = [("b", ("y", "x")), ("a", ("y",))]
        machine = Machine(["b", "a"], [[1, 2], [0, 1], [2, 2], [3, 3]], [1, 3])
        one = Sharing(list(first))
        sharing, joined = together(one, machine, one, machine)
        self.assert_sharing(sharing, [("b", ("x", "y")), ("a", ("y",))])
        self.assertEqual(fields(joined), fields(least(machine)))
        self.assertIsNot(sharing, one)
        self.assertIsNot(joined, machine)

    def test_letters_and_desks_called_alike(self):
        first = [("x", ("a",)), ("a", ("x", "a"))]
        second = [("a", ("b",)), ("b", ("x",))]
        rows = [("x", ("a",)), ("a", ("a", "b", "x")), ("b", ("x",))]
        self.assert_together(first, last_one("xa", "x"), second, last_one("ab", "b"), rows, 5)

    def test_a_machine_that_lets_by_nothing_or_all(self):
        first, second = [("a", ("x",))], [("b", ("y",))]
        nothing, everything = Machine(["a"], [[0]], []), Machine(["b"], [[1], [0]], [0, 1])
        sharing, joined = self.assert_together(first, nothing, second, everything, first + second, 4)
        self.assertEqual(fields(joined), (("a", "b"), ((0, 0),), ()))
        everything_else = Machine(["a"], [[0]], [0])
        sharing, joined = self.assert_together(first, everything_else, second, everything, first + second, 4)
        self.assertEqual(fields(joined), (("a", "b"), ((0, 0),), (0,)))

    def test_alike_states_and_states_to_which_no_row_leads(self):
        first, second = [("a", ("x",))], [("b", ("y",))]
        one = Machine(["a"], [[2], [1], [3], [0]], [0, 1, 3])
        other = Machine(["b"], [[0], [0]], [0])
        sharing, joined = self.assert_together(first, one, second, other, first + second, 6)
        self.assertEqual(fields(joined), (("a", "b"), ((1, 0), (2, 1), (0, 2)), (0, 2)))

    def test_eight_states_each_and_six_letters(self):
        first = [("f", ("w",)), ("e", ("x",)), ("d", ("w", "x"))]
        second = [("c", ("y",)), ("b", ("z",)), ("a", ("z", "y"))]
        rows = first + [("c", ("y",)), ("b", ("z",)), ("a", ("y", "z"))]
        sharing, joined = self.assert_together(first, counter("fed", 8, [7]), second, counter("cba", 8, [7]), rows, 2)
        self.assertEqual(len(joined.table), 64)
        self.assertEqual(len(joined.good), 1)
        self.assertIs(lets_by(joined, ["f", "c", "e", "b", "d", "a", "f"] * 2), False)
        self.assertIs(lets_by(joined, ["f", "c", "e", "b", "d", "a", "f", "c", "e", "b", "d", "a", "f", "c"]), True)
        self.assertIsNone(notice(sharing, joined))

    def test_what_comes_of_two_that_take_no_notice_takes_none(self):
        chance = random.Random(1)
        quiet = 0
        for number in range(300):
            first, second = self.some_house(chance), self.some_house(chance)
            one, other = Sharing(first[0]), Sharing(second[0])
            if notice(one, first[1]) is None and notice(other, second[1]) is None:
                sharing, joined = together(one, first[1], other, second[1])
                self.assertIsNone(notice(sharing, joined))
                quiet += len(joined.table) > 2
        self.assertGreater(quiet, 10)

    def test_held_against_both_machines(self):
        chance = random.Random(2)
        for number in range(60):
            first, second = self.some_house(chance), self.some_house(chance)
            desks = {}
            for letter, names in first[0] + second[0]:
                desks.setdefault(letter, set()).update(names)
            rows = [(letter, tuple(sorted(desks[letter]))) for letter in desks]
            self.assert_together(*first, *second, rows, 4)

    def some_house(self, chance):
        letters = chance.sample(["a", "b", "c", "d"], chance.randint(1, 3))
        rows = [(letter, tuple(chance.sample(["x", "y", "z"], chance.randint(1, 2)))) for letter in letters]
        return rows, some_machine(chance, letters, 3)

    def test_a_house_put_to_one_that_was_told(self):
        first, second, third = [("a", ("x",))], [("b", ("y",))], [("c", ("x", "y"))]
        sharing, joined = together(Sharing(first), counter("a", 2, [1]), Sharing(second), counter("b", 2, [1]))
        rows = first + second
        self.assert_together(rows, joined, third, counter("c", 2, [1]), rows + third, 6)

    def test_the_asker_s_own(self):
        one, other = Sharing([("a", ("x",))]), Sharing([("b", ("y",))])
        machine, another = counter("a", 2, [1]), counter("b", 2, [1])
        told = together(one, machine, other, another)
        again = together(one, machine, other, another)
        self.assertIsNot(told[0], again[0])
        self.assertIsNot(told[1], again[1])
        for thing in told:
            self.assertNotIn(thing, (one, other, machine, another))


if __name__ == "__main__":
    unittest.main()
