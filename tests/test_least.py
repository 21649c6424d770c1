"""What parts states, least forms, both, either, turned: points 2, 8 to 10, and the interface's meetdesks/least.py."""

import itertools
import random
import unittest

from meetdesks.errors import MeetError, OtherLetters
from meetdesks.least import both, either, least, parted_from, turned
from meetdesks.machine import Machine, lets_by


def rows_up_to(letters, most):
    """All rows of at most so many letters, by length and order."""
    for many in range(most + 1):
        for row in itertools.product(letters, repeat=many):
            yield list(row)


def stands_behind(machine, state, row):
    for letter in row:
        state = machine.table[state][machine.letters.index(letter)]
    return state


def parts(machine, one, other, row):
    return (stands_behind(machine, one, row) in machine.good) != (stands_behind(machine, other, row) in machine.good)


def plain_parted(machine, one, other):
    """The first row that parts them, by going through rows: as long as states are needed at most."""
    for row in rows_up_to(machine.letters, len(machine.table)):
        if parts(machine, one, other, row):
            return row
    return None


def plain_least(machine):
    """The least form's fields, by what all rows of as many letters as there are states do."""
    rows = list(rows_up_to(machine.letters, len(machine.table)))

    def told_of(state):
        return tuple([stands_behind(machine, state, row) in machine.good for row in rows])

    first = {told_of(0): 0}
    table = []
    coming = [0]
    while len(table) < len(coming):
        steps = []
        for after in machine.table[coming[len(table)]]:
            told = told_of(after)
            if told not in first:
                first[told] = len(coming)
                coming.append(after)
            steps.append(first[told])
        table.append(tuple(steps))
    good = tuple([number for number, state in enumerate(coming) if state in machine.good])
    return machine.letters, tuple(table), good


def fields(machine):
    return machine.letters, machine.table, machine.good


def some_machines(seed, many, letters, most):
    """Machines of one to so many states, with the letters in some order; the same for a seed always."""
    chance = random.Random(seed)
    for number in range(many):
        states = chance.randint(1, most)
        names = list(letters)
        chance.shuffle(names)
        table = [[chance.randrange(states) for letter in names] for state in range(states)]
        good = [state for state in range(states) if chance.random() < 0.4]
        yield Machine(names, table, good)


def counter(many, good):
    return Machine(["tick", "stay"], [[(state + 1) % many, state] for state in range(many)], good)


class LeastCase(unittest.TestCase):
    def assert_fields(self, machine, letters, table, good):
        self.assertIsInstance(machine, Machine)
        self.assertEqual(fields(machine), (letters, table, good))
        self.assertIs(machine.letters.__class__, tuple)
        self.assertIs(machine.table.__class__, tuple)
        self.assertIs(machine.good.__class__, tuple)
        for row in machine.table:
            self.assertIs(row.__class__, tuple)


class PartedFrom(LeastCase):
    def assert_parted(self, machine, one, other, row):
        for again in range(2):
            for first, second in ((one, other), (other, one)):
                told = parted_from(machine, first, second)
                self.assertEqual(told, row)
                self.assertIs(told.__class__, list)

    def assert_alike(self, machine, one, other):
        self.assertIsNone(parted_from(machine, one, other))
        self.assertIsNone(parted_from(machine, other, one))

    def test_a_state_with_itself(self):
        machine = counter(24, [0, 5])
        for state in range(24):
            self.assertIsNone(parted_from(machine, state, state))
        self.assertIsNone(parted_from(Machine(["a"], [[0]], []), 0, 0))
        self.assertIsNone(parted_from(Machine(["a"], [[0]], [0]), 0, 0))

    def test_alike_states(self):
        machine = Machine(["a", "b"], [[1, 2], [3, 3], [3, 3], [0, 3]], [3])
        self.assert_alike(machine, 1, 2)
        six = counter(6, [0, 3])
        for state in range(3):
            self.assert_alike(six, state, state + 3)

    def test_none_good_and_all_good(self):
        for good in ([], [0, 1, 2]):
            machine = counter(3, good)
            for one, other in itertools.product(range(3), repeat=2):
                self.assert_alike(machine, one, other)

    def test_by_the_row_without_letters(self):
        machine = counter(4, [1, 2])
        for one, other in ((0, 1), (0, 2), (3, 1), (3, 2)):
            self.assert_parted(machine, one, other, [])

    def test_by_one_letter(self):
        machine = Machine(["b", "a"], [[0, 2], [1, 1], [2, 2]], [2])
        self.assert_parted(machine, 0, 1, ["a"])

    def test_of_one_length_the_first_by_the_machine_s_letters(self):
        self.assert_parted(Machine(["b", "a"], [[2, 2], [1, 1], [2, 2]], [2]), 0, 1, ["b"])
        self.assert_parted(Machine(["a", "b"], [[2, 2], [1, 1], [2, 2]], [2]), 0, 1, ["a"])
        for letters in itertools.permutations(["m", "z", "a"]):
            machine = Machine(list(letters), [[2, 2, 2], [1, 1, 1], [2, 2, 2]], [2])
            self.assert_parted(machine, 0, 1, [letters[0]])

    def test_of_two_letters_the_first_by_order(self):
        # From 0 both z a and a z lead to good 3, from 4 none does.
        table = [[1, 2], [4, 3], [3, 4], [3, 3], [4, 4]]
        self.assert_parted(Machine(["z", "a"], table, [3]), 0, 4, ["z", "a"])
        self.assert_parted(Machine(["a", "z"], table, [3]), 0, 4, ["a", "z"])

    def test_a_shorter_row_ahead_of_an_earlier_one(self):
        # a a leads from 0 to good, but so does b by itself.
        machine = Machine(["a", "b"], [[1, 2], [2, 3], [2, 2], [3, 3]], [2])
        self.assert_parted(machine, 0, 3, ["b"])

    def test_long_rows_of_counters(self):
        machine = counter(24, [23])
        self.assert_parted(machine, 0, 1, ["tick"] * 22)
        self.assert_parted(machine, 21, 22, ["tick"])
        self.assert_parted(machine, 22, 23, [])
        self.assert_parted(machine, 0, 22, ["tick"])
        for one, other in itertools.combinations(range(24), 2):
            self.assert_parted(machine, one, other, ["tick"] * (23 - other))

    def test_a_long_row_where_the_last_letters_count(self):
        table = [[min(state + 1, 22), state] for state in range(23)] + [[23, 23]]
        machine = Machine(["go", "wait"], table, [22])
        self.assert_parted(machine, 0, 23, ["go"] * 22)
        self.assert_parted(machine, 0, 1, ["go"] * 21)

    def test_states_to_which_no_row_leads(self):
        machine = Machine(["a"], [[0], [2], [2], [3]], [2])
        self.assert_parted(machine, 1, 3, ["a"])
        self.assert_parted(machine, 1, 2, [])
        self.assert_alike(machine, 0, 3)

    def test_held_against_all_rows(self):
        parted = 0
        for machine in itertools.chain(some_machines(8, 120, "cab", 5), some_machines(14, 150, "ba", 7)):
            for one, other in itertools.product(range(len(machine.table)), repeat=2):
                due = plain_parted(machine, one, other)
                self.assertEqual(parted_from(machine, one, other), due)
                parted += due is not None and len(due) > 1
        self.assertGreater(parted, 100)

    def test_the_list_is_the_asker_s_own(self):
        machine = counter(5, [4])
        told = parted_from(machine, 0, 1)
        told.append("stay")
        told[0] = "stay"
        self.assertEqual(parted_from(machine, 0, 1), ["tick"] * 3)
        told.clear()
        self.assertEqual(parted_from(machine, 0, 1), ["tick"] * 3)
        empty = parted_from(machine, 0, 4)
        empty.append("tick")
        self.assertEqual(parted_from(machine, 0, 4), [])

    def test_the_machine_is_as_it_was(self):
        machine = counter(5, [4])
        kept = fields(machine)
        parted_from(machine, 0, 1)
        self.assertEqual(fields(machine), kept)


class Least(LeastCase):
    def test_alike_states(self):
        machine = Machine(["a", "b"], [[1, 2], [3, 3], [3, 3], [0, 3]], [3])
        self.assert_fields(least(machine), ("a", "b"), ((1, 1), (2, 2), (0, 2)), (2,))

    def test_states_to_which_no_row_leads(self):
        machine = Machine(["a"], [[2], [0], [0], [3]], [0, 1, 3])
        self.assert_fields(least(machine), ("a",), ((1,), (0,)), (0,))
        # State 1, to which no row leads, is alike none of the others.
        machine = Machine(["a"], [[2], [1], [2]], [1])
        self.assert_fields(least(machine), ("a",), ((0,),), ())
        # State 1, to which no row leads, is alike state 2, and comes ahead of it.
        machine = Machine(["a"], [[2], [0], [0]], [1, 2])
        self.assert_fields(least(machine), ("a",), ((1,), (0,)), (1,))

    def test_numbered_as_they_come_up(self):
        # From 0 first 3 comes up, then 2; then from 3 on 1, and from 2 on 4.
        table = [[3, 2], [1, 0], [4, 2], [1, 3], [4, 1]]
        machine = Machine(["a", "b"], table, [1, 3])
        due = ((1, 2), (3, 1), (4, 2), (3, 0), (4, 3))
        self.assert_fields(least(machine), ("a", "b"), due, (1, 3))

    def test_a_letter_s_states_ahead_of_what_lies_behind_them(self):
        # 0 leads by a to 1 and by b to 3: these are 1 and 2, ahead of that behind 1.
        machine = Machine(["a", "b"], [[1, 3], [2, 2], [2, 2], [3, 0]], [1, 3])
        self.assert_fields(least(machine), ("a", "b"), ((1, 2), (3, 3), (2, 0), (3, 3)), (1, 2))

    def test_the_order_of_the_letters_as_told(self):
        table = [[1, 2], [1, 0], [0, 2]]
        machine = Machine(["b", "a"], table, [1])
        self.assert_fields(least(machine), ("b", "a"), ((1, 2), (1, 0), (0, 2)), (1,))
        machine = Machine(["a", "b"], [row[::-1] for row in table], [1])
        self.assert_fields(least(machine), ("a", "b"), ((1, 2), (1, 0), (0, 2)), (2,))

    def test_letters_kept_as_told(self):
        for letters in itertools.permutations(["zz", "a", "m", "b"]):
            self.assertEqual(least(Machine(list(letters), [[0] * 4], [0])).letters, letters)

    def test_one_state(self):
        for good in ([], [0]):
            self.assert_fields(least(Machine(["a", "b"], [[0, 0]], good)), ("a", "b"), ((0, 0),), tuple(good))

    def test_all_good_or_none_is_one_state(self):
        for many in (2, 3, 24):
            self.assert_fields(least(counter(many, [])), ("tick", "stay"), ((0, 0),), ())
            self.assert_fields(least(counter(many, list(range(many)))), ("tick", "stay"), ((0, 0),), (0,))

    def test_24_states(self):
        for good in ([23], [0], [0, 1, 5]):
            machine = counter(24, good)
            self.assert_fields(least(machine), *fields(machine))
        for step in (1, 2, 3, 4, 6, 8, 12):
            machine = counter(24, list(range(step - 1, 24, step)))
            self.assert_fields(least(machine), *fields(counter(step, [step - 1])))

    def test_24_states_parted_by_long_rows_alone(self):
        table = [[min(state + 1, 23), 0] for state in range(24)]
        machine = Machine(["go", "back"], table, [23])
        self.assert_fields(least(machine), *fields(machine))
        # The same with its states told from the other end: they are numbered as they come up.
        table = [[22, 0]] + [[22, 0]] + [[state - 1, 0] for state in range(2, 23)] + [[23, 0]]
        machine = Machine(["go", "back"], table, [1])
        due = tuple([(state + 1, 0) for state in range(22)] + [(1, 0)])
        self.assert_fields(least(machine), ("go", "back"), due, (22,))

    def test_of_a_least_form_it_is_as_it(self):
        for machine in some_machines(3, 60, "ba", 8):
            small = least(machine)
            again = least(small)
            self.assertEqual(fields(again), fields(small))
            self.assertIsNot(again, small)

    def test_held_against_all_rows(self):
        sizes = set()
        for machine in itertools.chain(some_machines(1, 250, "ba", 6), some_machines(2, 100, "cab", 4)):
            small = least(machine)
            self.assert_fields(small, *plain_least(machine))
            sizes.add((len(machine.table), len(small.table)))
            for row in rows_up_to(machine.letters, 4):
                self.assertIs(lets_by(small, row), lets_by(machine, row))
        self.assertGreater(len(sizes), 12)

    def test_no_two_states_of_it_are_alike_and_rows_lead_to_all(self):
        for machine in some_machines(4, 40, "abc", 12):
            small = least(machine)
            for one, other in itertools.combinations(range(len(small.table)), 2):
                self.assertIsNotNone(parted_from(small, one, other))
            reached = {0}
            for step in small.table:
                reached = reached | {after for state in reached for after in small.table[state]}
            self.assertEqual(reached, set(range(len(small.table))))

    def test_the_same_for_machines_that_let_by_the_same(self):
        # Two counters of the same, with states in another order and a few more of them.
        one = Machine(["a", "b"], [[1, 0], [2, 1], [0, 2]], [2])
        other = Machine(["a", "b"], [[4, 0], [0, 1], [3, 3], [5, 2], [1, 4], [2, 5]], [1, 3])
        self.assertEqual(fields(least(one)), fields(least(other)))
        self.assertNotEqual(fields(least(one)), fields(least(Machine(["a", "b"], [[1, 0], [2, 1], [0, 2]], [1]))))

    def test_the_machine_is_as_it_was(self):
        for machine in some_machines(5, 20, "ab", 6):
            kept = fields(machine)
            first = fields(least(machine))
            self.assertEqual(fields(machine), kept)
            self.assertEqual(fields(least(machine)), first)


class BothEitherTurned(LeastCase):
    def assert_lets_by(self, told, due, letters, most):
        for row in rows_up_to(letters, most):
            self.assertIs(lets_by(told, row), due(row), row)

    def test_two_counters(self):
        two = counter(2, [0])
        three = counter(3, [0])
        self.assert_fields(both(two, three), *fields(counter(6, [0])))
        self.assert_fields(either(two, three), *fields(counter(6, [0, 2, 3, 4])))
        self.assert_fields(turned(three), *fields(counter(3, [1, 2])))

    def test_held_against_the_machines_over_all_rows(self):
        chance = random.Random(10)
        for number in range(120):
            names = chance.choice([["a", "b"], ["b", "a"], ["c"], ["b", "c", "a"]])
            one, other = [
                Machine(list(names), [[chance.randrange(many) for name in names] for state in range(many)],
                        [state for state in range(many) if chance.random() < 0.5])
                for many in (chance.randint(1, 5), chance.randint(1, 5))
            ]
            kept = fields(one), fields(other)
            met = both(one, other)
            joined = either(one, other)
            other_way = turned(one)
            self.assertEqual((fields(one), fields(other)), kept)
            self.assert_lets_by(met, lambda row: lets_by(one, row) and lets_by(other, row), names, 5)
            self.assert_lets_by(joined, lambda row: lets_by(one, row) or lets_by(other, row), names, 5)
            self.assert_lets_by(other_way, lambda row: not lets_by(one, row), names, 5)
            for told in (met, joined, other_way):
                self.assert_fields(told, *fields(least(told)))
                self.assertEqual(told.letters, tuple(names))

    def test_they_are_least_forms(self):
        for machine in some_machines(9, 60, "ba", 5):
            self.assert_fields(turned(machine), *plain_least(turned(machine)))
            self.assert_fields(both(machine, turned(machine)), machine.letters, ((0, 0),), ())
            self.assert_fields(either(machine, turned(machine)), machine.letters, ((0, 0),), (0,))

    def test_turned_with_states_to_which_no_row_leads(self):
        machine = Machine(["a"], [[1], [0], [2]], [1])
        self.assert_fields(turned(machine), ("a",), ((1,), (0,)), (0,))

    def test_turned_of_all_and_of_none(self):
        self.assert_fields(turned(counter(5, [])), ("tick", "stay"), ((0, 0),), (0,))
        self.assert_fields(turned(counter(5, [0, 1, 2, 3, 4])), ("tick", "stay"), ((0, 0),), ())

    def test_turned_twice(self):
        for machine in some_machines(11, 60, "cab", 6):
            self.assertEqual(fields(turned(turned(machine))), fields(least(machine)))

    def test_one_with_itself(self):
        for machine in some_machines(12, 60, "ba", 6):
            self.assertEqual(fields(both(machine, machine)), fields(least(machine)))
            self.assertEqual(fields(either(machine, machine)), fields(least(machine)))

    def test_in_both_orders(self):
        machines = [machine for machine in some_machines(13, 60, "ba", 5) if machine.letters == ("b", "a")]
        for one, other in zip(machines, machines[1:]):
            self.assertEqual(fields(both(one, other)), fields(both(other, one)))
            self.assertEqual(fields(either(one, other)), fields(either(other, one)))

    def test_eight_states_each(self):
        told = both(counter(8, [7]), counter(7, [6]))
        self.assert_fields(told, *fields(counter(56, [55])))
        good = [state for state in range(56) if state % 8 == 7 or state % 7 == 6]
        self.assert_fields(either(counter(8, [7]), counter(7, [6])), *fields(counter(56, good)))
        self.assert_fields(turned(told), *fields(counter(56, list(range(55)))))
        # What was told is put to use, with as many states as it has.
        self.assertEqual(parted_from(told, 0, 1), ["tick"] * 54)
        self.assert_fields(least(told), *fields(counter(56, [55])))

    def test_they_are_new_ones(self):
        machine = counter(3, [1])
        for told in (least, turned, lambda x: both(x, x), lambda x: either(x, x)):
            first = told(machine)
            self.assertIsNot(first, machine)
            self.assertIsNot(first, told(machine))
            self.assertEqual(fields(first), fields(told(machine)))
        self.assertEqual(fields(machine), fields(counter(3, [1])))


class RefusedOtherLetters(LeastCase):
    def assert_other_letters(self, first, second):
        one = Machine(list(first), [[0] * len(first)], [0])
        other = Machine(list(second), [[0] * len(second)], [0])
        for told, (left, right) in itertools.product((both, either), ((one, other), (other, one))):
            for again in range(2):
                with self.assertRaises(MeetError) as taken:
                    told(left, right)
                self.assertIs(taken.exception.__class__, OtherLetters)
        self.assertEqual(fields(one), (tuple(first), ((0,) * len(first),), (0,)))

    def test_another_order_of_the_same(self):
        self.assert_other_letters("ab", "ba")
        self.assert_other_letters("abc", "acb")
        self.assert_other_letters("abc", "bac")
        self.assert_other_letters("abcdef", "abcdfe")

    def test_one_more_and_one_fewer(self):
        self.assert_other_letters("ab", "abc")
        self.assert_other_letters("bc", "abc")
        self.assert_other_letters("a", "ab")
        self.assert_other_letters("ac", "abc")

    def test_another_name(self):
        self.assert_other_letters("a", "b")
        self.assert_other_letters("abc", "abd")
        self.assert_other_letters("abc", "xbc")
        self.assert_other_letters(["a", "b"], ["a", "bb"])

    def test_the_same_are_let_by(self):
        one = Machine(["b", "a"], [[0, 0]], [0])
        other = Machine(["b", "a"], [[0, 0]], [])
        self.assert_fields(both(one, other), ("b", "a"), ((0, 0),), ())
        self.assert_fields(either(one, other), ("b", "a"), ((0, 0),), (0,))


if __name__ == "__main__":
    unittest.main()
