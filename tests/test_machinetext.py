"""Machines' texts: points 2, 6 and 11, and the interface's meetdesks/machinetext.py."""

import itertools
import unittest

from meetdesks.errors import BadStep, MeetError, NoText, Twice
from meetdesks.least import both, least
from meetdesks.machine import Machine, lets_by
from meetdesks.machinetext import read_machine, show_machine

SMALL_TEXT = "letters b a\nplain 1 0\ngood 0 2\ngood 2 2"

# First rows of which none is the word letters and letters.
NO_FIRST_ROWS = [
    "", " ", "letters", "letters ", " letters a", "letters  a", "letters a ", "letters a  b", "a", "a b", "letter a",
    "letterss a", "Letters a", "LETTERS a", "good a", "good 0", "plain 0", "letters A", "letters a B", "letters aB",
    "letters abcdefghi", "letters a abcdefghi", "letters 1", "letters a 0", "letters a1", "letters a,b", "letters a.",
    "letters a_b", "letters -", "letters a ~", "letters: a", "a letters", "lettersa", "letters a/b",
]

# Rows for states of which none has a word and two numbers.
NO_STATE_ROWS = [
    "", " ", "good", "plain", "good ", "plain ", "good 0", "plain 0", "good 0 0 0", "plain 0 0 0", "good 0 0 0 0",
    " good 0 0", "good  0 0", "good 0  0", "good 0 0 ", "plain 0 0 ", " plain 0 0", "good 0 ", "good  0",
    "0 0", "0 0 0", "Good 0 0", "PLAIN 0 0", "goods 0 0", "plai 0 0", "bad 0 0", "letters 0 0", "letters b a",
    "good0 0", "good 0 0 good", "good plain 0 0", "good plain 0", "0 0 good", "good good 0",
    "good 00 0", "good 0 00", "plain 01 0", "plain 0 01", "good 000 0", "good 0 001", "good 012 0", "good 0 010",
    "good 0000 0", "good 1000 0", "good 0 1000", "plain 9999 0", "plain 0 12345", "good 0 0001",
    "good -1 0", "good 0 -1", "good +1 0", "good 0 +0", "good -0 0", "good 1. 0", "good 0.0 0", "good 0 1_0",
    "good a 0", "good 0 b", "good 0a 0", "good 0 0x1", "good 0 a1", "good 0 ~", "good 0,0", "good 0, 0", "good 1e1 0",
    "good 0 !", "good / 0", "good : 0",
]


def fields(machine):
    return machine.letters, machine.table, machine.good


class TextCase(unittest.TestCase):
    def assert_machine(self, machine, letters, table, good):
        self.assertIsInstance(machine, Machine)
        self.assertEqual(fields(machine), (letters, table, good))

    def assert_refused(self, kind, told, text):
        for again in range(2):
            with self.assertRaises(MeetError, msg=repr(text)) as taken:
                read_machine(text)
            self.assertIs(taken.exception.__class__, kind, repr(text))
            for name, value in told.items():
                self.assertEqual(getattr(taken.exception, name), value, repr(text))

    def assert_no_text(self, text, line):
        self.assert_refused(NoText, {"line": line}, text)


class Shown(TextCase):
    def test_a_machine(self):
        self.assertEqual(show_machine(Machine(["b", "a"], [[1, 0], [0, 2], [2, 2]], [2, 1, 2])), SMALL_TEXT)

    def test_one_state_and_one_letter(self):
        self.assertEqual(show_machine(Machine(["a"], [[0]], [])), "letters a\nplain 0")
        self.assertEqual(show_machine(Machine(["a"], [[0]], [0])), "letters a\ngood 0")

    def test_every_choice_of_good(self):
        for good in itertools.product((False, True), repeat=3):
            machine = Machine(["x", "y"], [[0, 1], [1, 2], [2, 0]], [state for state in range(3) if good[state]])
            words = ["good" if told else "plain" for told in good]
            due = f"letters x y\n{words[0]} 0 1\n{words[1]} 1 2\n{words[2]} 2 0"
            self.assertEqual(show_machine(machine), due)

    def test_letters_in_every_order(self):
        for letters in itertools.permutations(["zz", "a", "mmmmmmmm"]):
            machine = Machine(list(letters), [[1, 0, 1], [0, 0, 0]], [0])
            self.assertEqual(show_machine(machine), f"letters {' '.join(letters)}\ngood 1 0 1\nplain 0 0 0")

    def test_24_states_and_six_letters(self):
        table = [[(state * 5 + step) % 24 for step in range(6)] for state in range(24)]
        rows = ["letters f e d c b a"]
        for state, steps in enumerate(table):
            rows.append(("good" if state % 3 == 0 else "plain") + "".join([f" {step}" for step in steps]))
        self.assertEqual(show_machine(Machine(list("fedcba"), table, list(range(0, 24, 3)))), "\n".join(rows))

    def test_machines_that_were_told(self):
        self.assertEqual(show_machine(least(Machine(["a"], [[2], [0], [0]], [2, 1]))), "letters a\nplain 1\ngood 0")
        eight = Machine(["a"], [[(state + 1) % 8] for state in range(8)], [7])
        seven = Machine(["a"], [[(state + 1) % 7] for state in range(7)], [6])
        rows = ["letters a"] + [f"plain {state + 1}" for state in range(55)] + ["good 0"]
        self.assertEqual(show_machine(both(eight, seven)), "\n".join(rows))

    def test_it_is_a_text_and_the_same_again(self):
        machine = Machine(["b", "a"], [[1, 0], [0, 2], [2, 2]], [2, 1])
        for again in range(3):
            self.assertIs(show_machine(machine).__class__, str)
            self.assertEqual(show_machine(machine), SMALL_TEXT)
        self.assertEqual(fields(machine), (("b", "a"), ((1, 0), (0, 2), (2, 2)), (1, 2)))


class Read(TextCase):
    def test_a_text(self):
        self.assert_machine(read_machine(SMALL_TEXT), ("b", "a"), ((1, 0), (0, 2), (2, 2)), (1, 2))

    def test_one_state_and_one_letter(self):
        self.assert_machine(read_machine("letters a\nplain 0"), ("a",), ((0,),), ())
        self.assert_machine(read_machine("letters a\ngood 0"), ("a",), ((0,),), (0,))

    def test_every_choice_of_good(self):
        for words in itertools.product(("plain", "good"), repeat=3):
            machine = read_machine(f"letters x\n{words[0]} 1\n{words[1]} 2\n{words[2]} 0")
            good = tuple([state for state in range(3) if words[state] == "good"])
            self.assert_machine(machine, ("x",), ((1,), (2,), (0,)), good)

    def test_it_lets_by(self):
        machine = read_machine(SMALL_TEXT)
        self.assertIs(lets_by(machine, ["b"]), True)
        self.assertIs(lets_by(machine, ["a"]), False)
        self.assertIs(lets_by(machine, ["b", "a"]), True)

    def test_letters_called_like_the_words_of_the_text(self):
        for letters in itertools.permutations(["letters", "good", "plain"]):
            text = f"letters {' '.join(letters)}\nplain 1 0 0\ngood 1 1 0"
            machine = read_machine(text)
            self.assert_machine(machine, letters, ((1, 0, 0), (1, 1, 0)), (1,))
            self.assertEqual(show_machine(machine), text)
            self.assertIs(lets_by(machine, [letters[0]]), True)
        for letter in ("letters", "good", "plain"):
            self.assert_machine(read_machine(f"letters {letter}\ngood 0"), (letter,), ((0,),), (0,))

    def test_names_of_eight_signs(self):
        machine = read_machine("letters abcdefgh stuvwxyz\ngood 0 0")
        self.assert_machine(machine, ("abcdefgh", "stuvwxyz"), ((0, 0),), (0,))

    def test_numbers_of_one_and_two_figures(self):
        rows = ["letters a b"] + [f"plain {(state + 1) % 24} {23 - state}" for state in range(24)]
        table = tuple([((state + 1) % 24, 23 - state) for state in range(24)])
        self.assert_machine(read_machine("\n".join(rows)), ("a", "b"), table, ())

    def test_what_was_written_is_read(self):
        table = [[(state * 5 + step) % 24 for step in range(6)] for state in range(24)]
        for machine in (
            Machine(list("fedcba"), table, list(range(0, 24, 3))),
            Machine(["a"], [[0]], []),
            Machine(["good", "a"], [[2, 0], [1, 1], [0, 1]], [1, 0]),
        ):
            self.assert_machine(read_machine(show_machine(machine)), *fields(machine))

    def test_what_was_read_is_written(self):
        for text in (SMALL_TEXT, "letters a\nplain 0", "letters z a\ngood 1 1\nplain 0 1\ngood 2 0"):
            self.assertEqual(show_machine(read_machine(text)), text)

    def test_each_is_a_new_one(self):
        first = read_machine(SMALL_TEXT)
        second = read_machine(SMALL_TEXT)
        self.assertIsNot(first, second)
        self.assertEqual(fields(first), fields(second))


class RefusedNoText(TextCase):
    def test_the_text_without_signs(self):
        self.assert_no_text("", 1)

    def test_first_rows(self):
        for row in NO_FIRST_ROWS:
            self.assert_no_text(row, 1)
            self.assert_no_text(row + "\ngood 0", 1)
            self.assert_no_text(row + "\ngood 0 0\nplain 1 1", 1)
            self.assert_no_text(row + "\nbad", 1)
            self.assert_no_text(row + "\n", 1)

    def test_states_rows_at_every_place(self):
        states = ["good 0 0", "plain 3 1", "plain 1 2"]
        for row in NO_STATE_ROWS:
            self.assert_no_text("letters b a\n" + row, 2)
            for at in range(len(states) + 1):
                rows = ["letters b a"] + states[:at] + [row] + states[at:]
                self.assert_no_text("\n".join(rows), at + 2)

    def test_no_state_s_row(self):
        self.assert_no_text("letters a", 2)
        self.assert_no_text("letters a b c d e f", 2)
        self.assert_no_text("letters letters", 2)

    def test_no_state_s_row_ahead_of_twice(self):
        self.assert_no_text("letters a a", 2)

    def test_an_empty_row_behind_the_last_one(self):
        self.assert_no_text("letters a\n", 2)
        self.assert_no_text("letters a\ngood 0\n", 3)
        self.assert_no_text("letters a\ngood 0\nplain 0\n\n", 4)

    def test_an_empty_row_ahead_and_between(self):
        self.assert_no_text("\nletters a\ngood 0", 1)
        self.assert_no_text("letters a\n\ngood 0", 2)
        self.assert_no_text("letters a\ngood 0\n\ngood 0", 3)
        self.assert_no_text("\n", 1)
        self.assert_no_text("\n\n\n", 1)

    def test_as_many_numbers_as_letters(self):
        for many in range(1, 7):
            letters = "letters " + " ".join("abcdef"[:many])
            machine = read_machine(letters + "\ngood" + " 0" * many)
            self.assert_machine(machine, tuple("abcdef"[:many]), ((0,) * many,), (0,))
            for other in range(8):
                if other != many:
                    self.assert_no_text(letters + "\ngood" + " 0" * other, 2)
                    self.assert_no_text(letters + "\ngood" + " 0" * many + "\nplain" + " 0" * other, 3)

    def test_figures(self):
        for word in "00 01 000 007 010 0000 1000 1234 9999 12345 -1 +1 a 1a a1".split():
            self.assert_no_text("letters a\ngood " + word, 2)
            self.assert_no_text("letters a\ngood 0\nplain " + word, 3)

    def test_of_two_rows_the_first(self):
        self.assert_no_text("letters a\ngood 0 0\nbad 0", 2)
        self.assert_no_text("letters a\ngood 0\nbad 0\ngood 00", 3)
        self.assert_no_text("letters A\ngood 00", 1)
        for one, other in itertools.permutations(["", "good", "good 00", "plain  0", "Good 0", "good 1000"], 2):
            self.assert_no_text(f"letters a\nplain 0\n{one}\nplain 0\n{other}", 3)
            self.assert_no_text(f"letters a\n{one}\n{other}", 2)

    def test_ahead_of_twice(self):
        self.assert_no_text("letters a a\ngood 0", 2)
        self.assert_no_text("letters a b a\ngood 0 0 0\nplain 0 0", 3)
        self.assert_no_text("letters a a A\ngood 0 0 0", 1)

    def test_ahead_of_bad_step(self):
        self.assert_no_text("letters a\ngood 1\nplain 2\nplain 00", 4)
        self.assert_no_text("letters a\ngood 999\n", 3)
        self.assert_no_text("letters a a\ngood 7 7\nbad 0 0", 3)


class RefusedTwiceAndBadStep(TextCase):
    def test_twice(self):
        self.assert_refused(Twice, {"name": "a"}, "letters a a\ngood 0 0")
        self.assert_refused(Twice, {"name": "b"}, "letters a b c b\ngood 0 0 0 0")
        self.assert_refused(Twice, {"name": "b"}, "letters a b b a\ngood 0 0 0 0")
        self.assert_refused(Twice, {"name": "letters"}, "letters letters letters\ngood 0 0")
        self.assert_refused(Twice, {"name": "good"}, "letters good plain good\ngood 0 0 0")

    def test_twice_ahead_of_bad_step(self):
        self.assert_refused(Twice, {"name": "a"}, "letters a a\ngood 1 0")
        self.assert_refused(Twice, {"name": "a"}, "letters a b a\ngood 0 9 0\nplain 2 0 0")

    def test_bad_step_at_every_place(self):
        letters = ["z", "a", "m"]
        for bad in ("3", "4", "10", "24", "100", "999"):
            for state, at in itertools.product(range(3), repeat=2):
                rows = [["0", "2", "1"] for row in range(3)]
                rows[state][at] = bad
                text = "letters z a m\n" + "\n".join(["good " + " ".join(row) for row in rows])
                self.assert_refused(BadStep, {"state": state, "letter": letters[at]}, text)

    def test_of_several_bad_steps_the_first(self):
        self.assert_refused(BadStep, {"state": 0, "letter": "a"}, "letters z a\nplain 0 2\ngood 9 9")
        self.assert_refused(BadStep, {"state": 1, "letter": "z"}, "letters z a\nplain 0 1\ngood 2 5")
        self.assert_refused(BadStep, {"state": 0, "letter": "a"}, "letters a\ngood 1")

    def test_it_changes_nothing(self):
        self.assert_refused(Twice, {"name": "a"}, "letters a a\ngood 0 0")
        self.assert_refused(BadStep, {"state": 0, "letter": "a"}, "letters a\ngood 1")
        self.assert_machine(read_machine(SMALL_TEXT), ("b", "a"), ((1, 0), (0, 2), (2, 2)), (1, 2))


if __name__ == "__main__":
    unittest.main()
