"""Maps: points 2, 7 and 19, and the interface's meetdesks/maps.py."""

import itertools
import random
import unittest

from meetdesks.errors import NoLetter
from meetdesks.least import least
from meetdesks.machine import Machine, run
from meetdesks.maps import along, and_then, map_of, staying
from plain import HOUSES, RefusalCase, fields, past_of, rows_up_to, shuffled, some_quiet_machine, some_row

ONE = Machine(["a", "b"], [[0, 0]], [0])
SMALL = Machine(["b", "a"], [[1, 0], [2, 0], [2, 1]], [2])
WIDE = Machine(list("fbd"), [[(state * 5 + 1) % 24, (state + 7) % 24, state // 2] for state in range(24)], [3])


def led(machine, state, row):
    """Where the row leads a state, plainly."""
    for letter in row:
        state = machine.table[state][machine.letters.index(letter)]
    return state


def plain_map(machine, row):
    return tuple([led(machine, state, row) for state in range(len(machine.table))])


class MapsCase(RefusalCase):
    def assert_map(self, told, due):
        self.assertIs(told.__class__, tuple)
        self.assertEqual(told, due)

    def assert_no_letter(self, letter, asked, *handed):
        self.assert_refused(NoLetter, {"letter": letter}, asked, *handed)


class Staying(MapsCase):
    def test_each_to_itself(self):
        self.assert_map(staying(1), (0,))
        self.assert_map(staying(2), (0, 1))
        self.assert_map(staying(24), tuple(range(24)))
        self.assert_map(staying(300), tuple(range(300)))


class AndThen(MapsCase):
    def test_the_one_and_then_the_other(self):
        self.assert_map(and_then((1, 2, 2), (0, 0, 1)), (0, 1, 1))
        self.assert_map(and_then((0, 0, 1), (1, 2, 2)), (1, 1, 2))
        self.assert_map(and_then((1, 0), (0, 0)), (0, 0))
        self.assert_map(and_then((0, 0), (1, 0)), (1, 1))

    def test_one_state(self):
        self.assert_map(and_then((0,), (0,)), (0,))

    def test_staying_changes_nothing(self):
        for told in itertools.product(range(3), repeat=3):
            self.assert_map(and_then(told, staying(3)), told)
            self.assert_map(and_then(staying(3), told), told)

    def test_three_put_together_either_way(self):
        every = list(itertools.product(range(3), repeat=3))
        chance = random.Random(1)
        for turn in range(400):
            one, two, three = chance.choice(every), chance.choice(every), chance.choice(every)
            due = tuple([three[two[one[state]]] for state in range(3)])
            self.assert_map(and_then(and_then(one, two), three), due)
            self.assert_map(and_then(one, and_then(two, three)), due)

    def test_24_states(self):
        one = tuple([(state + 1) % 24 for state in range(24)])
        other = tuple([state // 2 for state in range(24)])
        self.assert_map(and_then(one, other), tuple([(state + 1) % 24 // 2 for state in range(24)]))
        self.assert_map(and_then(other, one), tuple([state // 2 + 1 for state in range(24)]))


class MapOf(MapsCase):
    def test_the_row_without_letters(self):
        for machine in (ONE, SMALL, WIDE):
            self.assert_map(map_of(machine, []), tuple(range(len(machine.table))))

    def test_rows(self):
        self.assert_map(map_of(SMALL, ["b"]), (1, 2, 2))
        self.assert_map(map_of(SMALL, ["a"]), (0, 0, 1))
        self.assert_map(map_of(SMALL, ["b", "a"]), (0, 1, 1))
        self.assert_map(map_of(SMALL, ["a", "b"]), (1, 1, 2))

    def test_one_state(self):
        for row in rows_up_to(["a", "b"], 4):
            self.assert_map(map_of(ONE, row), (0,))

    def test_held_against_each_state(self):
        for row in rows_up_to(["b", "a"], 7):
            self.assert_map(map_of(SMALL, row), plain_map(SMALL, row))
        for row in rows_up_to(["f", "b", "d"], 4):
            self.assert_map(map_of(WIDE, row), plain_map(WIDE, row))
            self.assertEqual(map_of(WIDE, row)[0], run(WIDE, row))

    def test_sixty_letters(self):
        chance = random.Random(2)
        for turn in range(20):
            row = [chance.choice("fbd") for place in range(60)]
            self.assert_map(map_of(WIDE, row), plain_map(WIDE, row))

    def test_two_parts_put_together(self):
        chance = random.Random(3)
        for machine in (ONE, SMALL, WIDE):
            row = [chance.choice(machine.letters) for place in range(30)]
            for at in range(31):
                told = and_then(map_of(machine, row[:at]), map_of(machine, row[at:]))
                self.assert_map(told, map_of(machine, row))

    def test_strange_letters(self):
        for at in range(60):
            row = ["f", "b", "d"] * 20
            row[at] = "x"
            self.assert_no_letter("x", map_of, WIDE, row)
        self.assert_no_letter("y", map_of, SMALL, ["a", "y", "x"])
        self.assert_no_letter("x", map_of, SMALL, ["x", "y"])

    def test_nothing_is_changed(self):
        row = ["b", "a", "b"]
        kept = fields(SMALL)
        for again in range(2):
            self.assert_map(map_of(SMALL, row), plain_map(SMALL, row))
        self.assertEqual(row, ["b", "a", "b"])
        self.assertEqual(fields(SMALL), kept)


class Along(MapsCase):
    ROW = ["f", "b", "d", "f", "b"]

    def test_along_none(self):
        self.assert_map(along(WIDE, self.ROW, []), tuple(range(24)))
        self.assert_map(along(WIDE, [], []), tuple(range(24)))

    def test_along_the_opening_alone(self):
        self.assert_map(along(WIDE, self.ROW, [0]), tuple(range(24)))
        self.assert_map(along(WIDE, [], [0]), tuple(range(24)))
        self.assert_map(along(ONE, ["a"], [0]), (0,))

    def test_along_all(self):
        due = map_of(WIDE, self.ROW)
        self.assert_map(along(WIDE, self.ROW, [1, 2, 3, 4, 5]), due)
        self.assert_map(along(WIDE, self.ROW, [0, 1, 2, 3, 4, 5]), due)

    def test_along_every_choice(self):
        for many in range(7):
            for numbers in itertools.combinations(range(6), many):
                letters = [self.ROW[number - 1] for number in numbers if number]
                self.assert_map(along(WIDE, self.ROW, list(numbers)), plain_map(WIDE, letters))

    def test_of_sixty_letters(self):
        row = ["b", "a", "a"] * 20
        self.assert_map(along(SMALL, row, [60]), plain_map(SMALL, ["a"]))
        self.assert_map(along(SMALL, row, list(range(61))), plain_map(SMALL, row))
        self.assert_map(along(SMALL, row, list(range(1, 61, 3))), plain_map(SMALL, ["b"] * 20))

    def test_strange_letters_among_the_numbers_and_not(self):
        for at in range(5):
            row = list(self.ROW)
            row[at] = "x"
            for numbers in ([], [0], [at + 1], [0, 1, 2, 3, 4, 5], [other for other in range(6) if other != at + 1]):
                self.assert_no_letter("x", along, WIDE, row, numbers)
        self.assert_no_letter("y", along, SMALL, ["a", "y", "x"], [3])
        self.assert_no_letter("y", along, SMALL, ["a", "y", "x"], [1])

    def test_rows_that_are_one_history(self):
        # Along the same meetings, in whatever order that keeps the history, a machine without notice has one map.
        chance = random.Random(4)
        unlike = 0
        for rows in HOUSES:
            machine = least(some_quiet_machine(chance, rows))
            for turn in range(4):
                row = some_row(chance, rows, 25)
                other = shuffled(chance, rows, row, 200)
                unlike += row != other
                # The meetings of which a desk knows, numbered as they stand in each row.
                for desk in past_of(rows, row).desks:
                    mine = sorted(past_of(rows, row).known([desk]))
                    theirs = sorted(past_of(rows, other).known([desk]))
                    self.assert_map(along(machine, row, mine), along(machine, other, theirs))
                self.assert_map(map_of(machine, row), map_of(machine, other))
        self.assertGreater(unlike, 15)

    def test_nothing_is_changed(self):
        row, numbers = ["b", "a", "b"], [0, 1, 3]
        for again in range(2):
            self.assert_map(along(SMALL, row, numbers), plain_map(SMALL, ["b", "b"]))
        self.assertEqual((row, numbers), (["b", "a", "b"], [0, 1, 3]))
        row.append("a")
        numbers.append(4)
        self.assert_map(along(SMALL, row, numbers), plain_map(SMALL, ["b", "b", "a"]))


if __name__ == "__main__":
    unittest.main()
