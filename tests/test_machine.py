"""Machines: points 2, 6 and 7, and the interface's meetdesks/machine.py."""

import copy
import itertools
import unittest

from meetdesks.errors import BadGood, BadStep, MeetError, NoLetter, Twice
from meetdesks.machine import Machine, lets_by, run

# b goes up, a goes back to 0; good is behind just two b.
LETTERS = ["b", "a"]
TABLE = [[1, 0], [2, 0], [3, 0], [3, 3]]
GOOD = [2]


def counter(many):
    """A machine that counts tick round and round; back leads to 0, stay stays."""
    table = [[(state + 1) % many, 0, state] for state in range(many)]
    return Machine(["tick", "back", "stay"], table, [many - 1])


class MachineCase(unittest.TestCase):
    def assert_machine(self, machine, letters, table, good):
        self.assertEqual(machine.letters, letters)
        self.assertEqual(machine.table, table)
        self.assertEqual(machine.good, good)

    def assert_small(self, machine):
        self.assert_machine(machine, ("b", "a"), ((1, 0), (2, 0), (3, 0), (3, 3)), (2,))
        self.assertEqual(run(machine, ["b", "b"]), 2)
        self.assertIs(lets_by(machine, ["b", "b"]), True)
        self.assertIs(lets_by(machine, ["b"]), False)

    def assert_refused(self, kind, fields, made, *told):
        for again in range(2):
            with self.assertRaises(MeetError, msg=repr(told)) as taken:
                made(*copy.deepcopy(told))
            self.assertIs(taken.exception.__class__, kind, repr(told))
            for name, value in fields.items():
                self.assertEqual(getattr(taken.exception, name), value, repr(told))


class Made(MachineCase):
    def test_fields_as_told(self):
        self.assert_small(Machine(list(LETTERS), copy.deepcopy(TABLE), list(GOOD)))

    def test_fields_are_tuples(self):
        machine = Machine(list(LETTERS), copy.deepcopy(TABLE), list(GOOD))
        self.assertIs(machine.letters.__class__, tuple)
        self.assertIs(machine.table.__class__, tuple)
        self.assertIs(machine.good.__class__, tuple)
        for row in machine.table:
            self.assertIs(row.__class__, tuple)

    def test_letters_keep_their_order(self):
        for letters in itertools.permutations(["c", "a", "b"]):
            machine = Machine(list(letters), [[1, 0, 0], [1, 1, 1]], [1])
            self.assertEqual(machine.letters, letters)
            self.assertEqual([run(machine, [letter]) for letter in letters], [1, 0, 0])

    def test_good_in_any_order_and_twice(self):
        table = [[1], [2], [3], [0]]
        for good in itertools.permutations([3, 0, 2]):
            self.assert_machine(Machine(["a"], table, list(good)), ("a",), ((1,), (2,), (3,), (0,)), (0, 2, 3))
        for good in ([3, 1, 3], [1, 3, 1, 1], [3, 3, 1], [1, 1, 3, 3]):
            self.assert_machine(Machine(["a"], table, good), ("a",), ((1,), (2,), (3,), (0,)), (1, 3))
        self.assertEqual(Machine(["a"], table, [0, 0, 0]).good, (0,))

    def test_good_rises_as_numbers(self):
        table = [[0] for state in range(24)]
        self.assertEqual(Machine(["a"], table, [10, 9, 23, 2, 0, 1]).good, (0, 1, 2, 9, 10, 23))

    def test_none_good_and_all_good(self):
        for good in ([], [0], [1], [0, 1], [1, 0]):
            machine = Machine(["a"], [[1], [0]], good)
            self.assertEqual(machine.good, tuple(sorted(good)))
            self.assertIs(lets_by(machine, []), 0 in good)
            self.assertIs(lets_by(machine, ["a"]), 1 in good)

    def test_one_state_and_one_letter(self):
        self.assert_machine(Machine(["abcdefgh"], [[0]], [0]), ("abcdefgh",), ((0,),), (0,))

    def test_24_states_and_six_letters(self):
        table = [[(state * 7 + step) % 24 for step in range(6)] for state in range(24)]
        machine = Machine(list("fedcba"), table, list(range(23, -1, -1)))
        self.assert_machine(machine, tuple("fedcba"), tuple([tuple(row) for row in table]), tuple(range(24)))

    def test_steps_to_the_first_and_the_last_state(self):
        machine = Machine(["a", "b"], [[2, 0], [0, 2], [2, 2]], [2])
        self.assert_machine(machine, ("a", "b"), ((2, 0), (0, 2), (2, 2)), (2,))

    def test_a_state_to_which_no_row_leads_is_kept(self):
        self.assert_machine(Machine(["a"], [[0], [1], [0]], [2, 1]), ("a",), ((0,), (1,), (0,)), (1, 2))


class Copies(MachineCase):
    def test_what_was_handed_in_is_as_it_was(self):
        letters, table, good = ["b", "a"], copy.deepcopy(TABLE), [3, 1, 3, 0]
        machine = Machine(letters, table, good)
        run(machine, ["b", "a"])
        self.assertEqual((letters, table, good), (["b", "a"], TABLE, [3, 1, 3, 0]))

    def test_what_was_refused_is_as_it_was(self):
        twice = (["b", "a", "b"], [[0, 0, 0]], [0, 0])
        for told in (twice, (["b", "a"], [[0, 7]], [3]), (["b", "a"], [[0, 0]], [0, 5])):
            kept = copy.deepcopy(told)
            self.assertRaises(MeetError, Machine, *told)
            self.assertEqual(told, kept)

    def test_changed_behind_the_making(self):
        letters, table, good = list(LETTERS), copy.deepcopy(TABLE), list(GOOD)
        machine = Machine(letters, table, good)
        letters.reverse()
        letters.append("c")
        table[0][0] = 3
        table[1].append(1)
        table[2] = [0, 0]
        table.append([0, 0])
        good.append(0)
        good[0] = 1
        self.assert_small(machine)
        self.assertRaises(NoLetter, run, machine, ["c"])

    def test_emptied_behind_the_making(self):
        letters, table, good = list(LETTERS), copy.deepcopy(TABLE), list(GOOD)
        machine = Machine(letters, table, good)
        for row in table:
            row.clear()
        letters.clear()
        table.clear()
        good.clear()
        self.assert_small(machine)

    def test_two_of_one_table(self):
        table = copy.deepcopy(TABLE)
        first = Machine(list(LETTERS), table, list(GOOD))
        table[0][0] = 2
        second = Machine(list(LETTERS), table, [0])
        self.assert_small(first)
        self.assert_machine(second, ("b", "a"), ((2, 0), (2, 0), (3, 0), (3, 3)), (0,))

    def test_one_row_for_several_states(self):
        row = [1, 0]
        machine = Machine(["b", "a"], [row, row], [1])
        row[0] = 0
        self.assert_machine(machine, ("b", "a"), ((1, 0), (1, 0)), (1,))

    def test_a_row_run_is_as_it_was(self):
        machine = Machine(list(LETTERS), copy.deepcopy(TABLE), list(GOOD))
        row = ["b", "a", "b", "b"]
        run(machine, row)
        lets_by(machine, row)
        self.assertEqual(row, ["b", "a", "b", "b"])
        strange = ["b", "c", "a", "d"]
        self.assertRaises(NoLetter, run, machine, strange)
        self.assertRaises(NoLetter, lets_by, machine, strange)
        self.assertEqual(strange, ["b", "c", "a", "d"])


class Run(MachineCase):
    def test_the_row_without_letters(self):
        for good in ([0], [1], [0, 1], []):
            machine = Machine(["a"], [[1], [1]], good)
            self.assertEqual(run(machine, []), 0)
            self.assertIs(lets_by(machine, []), 0 in good)

    def test_rows(self):
        machine = Machine(list(LETTERS), copy.deepcopy(TABLE), list(GOOD))
        for row, state in (("b", 1), ("a", 0), ("bb", 2), ("ba", 0), ("bbb", 3), ("bba", 0), ("bbba", 3), ("abab", 1),
                           ("abb", 2), ("bbabb", 2), ("bbbbabab", 3)):
            self.assertEqual(run(machine, list(row)), state, row)
            self.assertIs(lets_by(machine, list(row)), state == 2, row)

    def test_the_letter_s_place_counts_not_the_alphabet(self):
        machine = Machine(["z", "m", "a"], [[1, 2, 0], [1, 1, 1], [2, 2, 2]], [1])
        self.assertEqual([run(machine, [letter]) for letter in "zma"], [1, 2, 0])

    def test_sixty_letters(self):
        for many in (1, 2, 7, 24):
            machine = counter(many)
            self.assertEqual(run(machine, ["tick"] * 60), 60 % many)
            self.assertIs(lets_by(machine, ["tick"] * 60), 60 % many == many - 1)
            row = ["tick"] * 20 + ["back"] + ["tick", "stay"] * 19 + ["tick"]
            self.assertEqual(len(row), 60)
            self.assertEqual(run(machine, row), 20 % many)
            self.assertIs(lets_by(machine, row), 20 % many == many - 1)

    def test_long_names(self):
        machine = Machine(["a", "aa", "aaaaaaaa"], [[1, 2, 3]] + [[state] * 3 for state in (1, 2, 3)], [2])
        self.assertEqual([run(machine, ["a" * many]) for many in (1, 2, 8)], [1, 2, 3])
        self.assertIs(lets_by(machine, ["aa"]), True)
        self.assertIs(lets_by(machine, ["a", "a"]), False)

    def test_kinds(self):
        machine = Machine(list(LETTERS), copy.deepcopy(TABLE), list(GOOD))
        for row in ([], ["b"], ["b", "b"], ["a"]):
            self.assertIs(run(machine, row).__class__, int)
            self.assertIs(lets_by(machine, row).__class__, bool)

    def test_asked_again_it_tells_the_same(self):
        machine = Machine(list(LETTERS), copy.deepcopy(TABLE), list(GOOD))
        for again in range(3):
            self.assertEqual(run(machine, ["b"]), 1)
            self.assertEqual(run(machine, ["b", "b"]), 2)
            self.assert_small(machine)


class RefusedTwice(MachineCase):
    def test_at_every_two_places(self):
        for first, second in itertools.combinations(range(6), 2):
            letters = list("fbdace")
            letters[second] = letters[first]
            self.assert_refused(Twice, {"name": letters[first]}, Machine, letters, [[0] * 6], [0])

    def test_of_several_the_first_that_came_again(self):
        for word, name in (("abba", "b"), ("abab", "a"), ("baab", "a"), ("aabb", "a"), ("aaaa", "a"), ("cabbc", "b")):
            self.assert_refused(Twice, {"name": name}, Machine, list(word), [[0] * len(word)], [])


class RefusedBadStep(MachineCase):
    def test_at_every_place(self):
        letters = ["z", "a", "m"]
        for bad in (-1, -2, -4, -1000, 4, 5, 24, 999, 10 ** 30, -(10 ** 30)):
            for state, at in itertools.product(range(4), range(3)):
                table = [[0, 3, 1] for row in range(4)]
                table[state][at] = bad
                self.assert_refused(BadStep, {"state": state, "letter": letters[at]}, Machine, letters, table, [3])

    def test_of_several_the_first_state_by_state(self):
        letters = ["z", "a"]
        self.assert_refused(BadStep, {"state": 0, "letter": "a"}, Machine, letters, [[0, 2], [2, 2]], [])
        self.assert_refused(BadStep, {"state": 0, "letter": "a"}, Machine, letters, [[0, 9], [-1, 0]], [])
        self.assert_refused(BadStep, {"state": 1, "letter": "z"}, Machine, letters, [[0, 1], [2, -1]], [])
        self.assert_refused(BadStep, {"state": 0, "letter": "z"}, Machine, letters, [[-5, 7], [3, 4]], [])
        self.assert_refused(BadStep, {"state": 1, "letter": "a"}, Machine, letters, [[0, 1], [1, 3], [5, 0]], [])

    def test_one_state(self):
        for bad in (1, -1, 2):
            self.assert_refused(BadStep, {"state": 0, "letter": "a"}, Machine, ["a"], [[bad]], [0])
            self.assert_refused(BadStep, {"state": 0, "letter": "b"}, Machine, ["a", "b"], [[0, bad]], [0])

    def test_at_a_state_to_which_no_row_leads(self):
        self.assert_refused(BadStep, {"state": 1, "letter": "a"}, Machine, ["a"], [[0], [2]], [])

    def test_at_the_last_of_24(self):
        table = [[(state + 1) % 24] for state in range(24)]
        table[23] = [24]
        self.assert_refused(BadStep, {"state": 23, "letter": "a"}, Machine, ["a"], table, [23])
        table[23] = [-1]
        self.assert_refused(BadStep, {"state": 23, "letter": "a"}, Machine, ["a"], table, [23])


class RefusedBadGood(MachineCase):
    def test_at_every_place(self):
        table = [[1], [2], [0]]
        for bad in (-1, -2, -3, -1000, 3, 4, 24, 999, 10 ** 30, -(10 ** 30)):
            for at in range(4):
                good = [2, 0, 1]
                good.insert(at, bad)
                self.assert_refused(BadGood, {"state": bad}, Machine, ["a"], table, good)
            self.assert_refused(BadGood, {"state": bad}, Machine, ["a"], table, [bad])

    def test_of_several_the_first_as_told(self):
        for good, bad in (([5, 3], 5), ([3, 5], 3), ([0, 9, -1], 9), ([-1, 9], -1), ([2, 0, 3, -7], 3), ([-2, -9], -2)):
            self.assert_refused(BadGood, {"state": bad}, Machine, ["a"], [[1], [2], [0]], good)

    def test_one_state(self):
        self.assert_refused(BadGood, {"state": 1}, Machine, ["a"], [[0]], [0, 1])
        self.assert_refused(BadGood, {"state": -1}, Machine, ["a"], [[0]], [-1])


class RefusedInOrder(MachineCase):
    def test_twice_ahead_of_bad_step(self):
        for table in ([[9, 0, 0]], [[0, 9, 0]], [[0, 0, -1]]):
            self.assert_refused(Twice, {"name": "a"}, Machine, ["a", "b", "a"], table, [0])
            self.assert_refused(Twice, {"name": "b"}, Machine, ["a", "b", "b"], table, [0])

    def test_twice_ahead_of_bad_good(self):
        self.assert_refused(Twice, {"name": "b"}, Machine, ["a", "b", "b"], [[0, 0, 0]], [1])
        self.assert_refused(Twice, {"name": "a"}, Machine, ["a", "a", "b"], [[0, 0, 0]], [-1, 0])

    def test_bad_step_ahead_of_bad_good(self):
        fields = {"state": 1, "letter": "b"}
        self.assert_refused(BadStep, fields, Machine, ["a", "b"], [[0, 1], [1, 2]], [2])
        self.assert_refused(BadStep, fields, Machine, ["a", "b"], [[0, 1], [1, -1]], [-1, 7])
        self.assert_refused(BadStep, {"state": 0, "letter": "a"}, Machine, ["a", "b"], [[7, 1], [1, 0]], [9, 0])

    def test_all_three(self):
        self.assert_refused(Twice, {"name": "b"}, Machine, ["a", "b", "b"], [[1, 0, 0]], [1])
        self.assert_refused(Twice, {"name": "a"}, Machine, ["a", "b", "a"], [[0, 0, -1]], [-1])
        self.assert_refused(Twice, {"name": "a"}, Machine, ["a", "a", "b", "b"], [[5, 5, 5, 5]], [5])

    def test_it_changes_nothing(self):
        machine = Machine(list(LETTERS), copy.deepcopy(TABLE), list(GOOD))
        for told in ((["b", "b"], [[0, 0]], []), (["b", "a"], [[0, 1]], []), (["b", "a"], [[0, 0]], [1])):
            self.assertRaises(MeetError, Machine, *told)
        self.assert_small(machine)
        self.assert_small(Machine(list(LETTERS), copy.deepcopy(TABLE), list(GOOD)))


class RefusedNoLetter(MachineCase):
    def test_at_every_place(self):
        machine = counter(5)
        for at in range(60):
            row = ["tick", "stay", "back"] * 20
            row[at] = "tack"
            self.assert_refused(NoLetter, {"letter": "tack"}, run, machine, row)
            self.assert_refused(NoLetter, {"letter": "tack"}, lets_by, machine, row)

    def test_of_several_the_first_from_the_left(self):
        machine = counter(5)
        for row, letter in ((["x"], "x"), (["x", "y"], "x"), (["y", "x"], "y"), (["tick", "y", "tick", "x"], "y"),
                            (["tick", "tick", "x", "a"], "x"), (["back", "z", "z", "a"], "z")):
            self.assert_refused(NoLetter, {"letter": letter}, run, machine, row)
            self.assert_refused(NoLetter, {"letter": letter}, lets_by, machine, row)

    def test_names_that_are_near(self):
        machine = counter(5)
        for strange in ("tic", "ticks", "t", "k", "ick", "ticktick", "bac"):
            self.assert_refused(NoLetter, {"letter": strange}, run, machine, ["tick", strange])
            self.assert_refused(NoLetter, {"letter": strange}, lets_by, machine, [strange, "tick"])

    def test_it_changes_nothing(self):
        machine = Machine(list(LETTERS), copy.deepcopy(TABLE), list(GOOD))
        self.assertRaises(NoLetter, run, machine, ["b", "b", "c"])
        self.assertRaises(NoLetter, lets_by, machine, ["b", "b", "c"])
        self.assert_small(machine)


if __name__ == "__main__":
    unittest.main()
