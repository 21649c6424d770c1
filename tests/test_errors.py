"""The refusals: point 2 and the interface's meetdesks/errors.py."""

import unittest

from meetdesks.errors import (
    BadGood, BadStep, MeetError, NoDesk, NoKind, NoLetter, NoName, NoRow, NoText, Notices, OtherLetters, TooMany, Twice,
)

# Each class, its name, and the fields that it is made of, in their order.
REFUSALS = [
    (NoText, "NoText", ["line"]),
    (Twice, "Twice", ["name"]),
    (BadStep, "BadStep", ["state", "letter"]),
    (BadGood, "BadGood", ["state"]),
    (NoLetter, "NoLetter", ["letter"]),
    (NoDesk, "NoDesk", ["desk"]),
    (OtherLetters, "OtherLetters", []),
    (Notices, "Notices", ["one", "other"]),
    (TooMany, "TooMany", ["most"]),
    (NoName, "NoName", ["name"]),
    (NoKind, "NoKind", []),
    (NoRow, "NoRow", []),
]

# What each refusal is made of where the program itself refuses.
ORDINARY = {
    "NoText": [3],
    "Twice": ["ann"],
    "BadStep": [2, "pay"],
    "BadGood": [7],
    "NoLetter": ["send"],
    "NoDesk": ["bob"],
    "OtherLetters": [],
    "Notices": [["a", "b"], ["b", "a"]],
    "TooMany": [300],
    "NoName": ["hall"],
    "NoKind": [],
    "NoRow": [],
}

# Two at a time, as the refusals made of two are to keep them apart.
PAIRS = [
    (0, 1),
    (1, 0),
    (12, 345),
    ("a", "b"),
    ("pay", 4),
    (5, "send"),
    (10 ** 40, 2 ** 64 + 1),
    (-1, -2),
    (-(10 ** 40), 10 ** 40),
    ("", "x"),
    ("x", ""),
    ("", ""),
    ([], ["a"]),
    (["a"], []),
    ([], []),
    (["a", "b", "a"], ["a", "a", "b"]),
    ("Not A Name!", "two\nrows"),
    ("a" * 500, " "),
    ([1, "a", []], [[2], -3]),
    (["a"] * 200, ["b"] * 200),
]


def make(kind, fields, pair):
    return kind(*pair[:len(fields)])


class Classes(unittest.TestCase):
    def test_meet_error_is_a_value_error(self):
        self.assertEqual(MeetError.__bases__, (ValueError,))
        self.assertEqual(MeetError.__name__, "MeetError")

    def test_each_stands_right_under_meet_error(self):
        for kind, name, fields in REFUSALS:
            with self.subTest(name):
                self.assertEqual(kind.__bases__, (MeetError,))
                self.assertEqual(kind.__name__, name)

    def test_each_is_of_its_own_class_and_of_no_other(self):
        for kind, name, fields in REFUSALS:
            error = kind(*ORDINARY[name])
            self.assertIsInstance(error, MeetError)
            self.assertIsInstance(error, ValueError)
            for other, other_name, other_fields in REFUSALS:
                with self.subTest(name, other=other_name):
                    self.assertEqual(isinstance(error, other), name == other_name)

    def test_each_is_raised_and_taken_by_each_class_above(self):
        for kind, name, fields in REFUSALS:
            for above in (kind, MeetError, ValueError):
                with self.subTest(name, above=above.__name__):
                    with self.assertRaises(above) as taken:
                        raise kind(*ORDINARY[name])
                    self.assertIs(taken.exception.__class__, kind)


class Fields(unittest.TestCase):
    def assert_fields(self, error, fields, told):
        for field, value in zip(fields, told):
            self.assertEqual(getattr(error, field), value)
            self.assertIs(getattr(error, field).__class__, value.__class__)

    def test_ordinary(self):
        for kind, name, fields in REFUSALS:
            with self.subTest(name):
                self.assertEqual(len(ORDINARY[name]), len(fields))
                self.assert_fields(kind(*ORDINARY[name]), fields, ORDINARY[name])

    def test_any_numbers_texts_and_lists(self):
        for kind, name, fields in REFUSALS:
            for pair in PAIRS:
                with self.subTest(name, pair=pair):
                    self.assert_fields(make(kind, fields, pair), fields, pair)

    def test_numbers_too_large_for_figures(self):
        # Python itself refuses to write these out, so no refusal may need that.
        huge = 10 ** 5000
        for kind, name, fields in REFUSALS:
            with self.subTest(name):
                error = make(kind, fields, (huge, -huge))
                told = [getattr(error, field) for field in fields]
                self.assertTrue(told == [huge, -huge][:len(fields)])

    def test_each_object_has_its_own(self):
        made = []
        for pair in PAIRS:
            for kind, name, fields in REFUSALS:
                made.append((make(kind, fields, pair), fields, pair))
        for error, fields, pair in made:
            with self.subTest(error.__class__.__name__, pair=pair):
                self.assert_fields(error, fields, pair)

    def test_the_same_again_behind_others(self):
        for kind, name, fields in REFUSALS:
            with self.subTest(name):
                first = kind(*ORDINARY[name])
                for other, other_name, other_fields in REFUSALS:
                    make(other, other_fields, ("else", "otherwise"))
                again = kind(*ORDINARY[name])
                self.assert_fields(first, fields, ORDINARY[name])
                self.assert_fields(again, fields, ORDINARY[name])
                self.assertIs(first.__class__, again.__class__)

    def test_the_fields_are_there_when_it_is_taken(self):
        for kind, name, fields in REFUSALS:
            with self.subTest(name):
                with self.assertRaises(MeetError) as taken:
                    raise kind(*ORDINARY[name])
                self.assert_fields(taken.exception, fields, ORDINARY[name])

    def test_what_is_handed_in_is_not_changed(self):
        one, other = ["b", "a"], []
        Notices(one, other)
        NoName(one)
        self.assertEqual((one, other), (["b", "a"], []))


if __name__ == "__main__":
    unittest.main()
