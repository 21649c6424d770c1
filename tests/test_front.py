"""The front: points 2, 7, 10, 25 and 33, and the interface's meetdesks/front.py."""

import itertools
import random
import unittest

from meetdesks.booktext import show_book
from meetdesks.errors import (
    BadStep, MeetError, NoDesk, NoKind, NoLetter, NoName, NoRow, NoText, Notices, OtherLetters, Twice,
)
from meetdesks.front import Front
from meetdesks.hall import Hall
from meetdesks.least import both, either, least, turned
from meetdesks.machine import lets_by
from meetdesks.machinetext import read_machine, show_machine
from meetdesks.notice import notice
from meetdesks.sharetext import read_sharing, show_sharing
from meetdesks.sharing import Sharing
from plain import HOUSES, Past, desks_of, letters_of, some_quiet_machine, some_row

SHARE = "m y x/b y/a x"
SHARE_SHOWN = "m x y/b y/a x"
# Each letter counts one, to three.
COUNT = "letters m b a/good 1 1 1/plain 2 2 2/plain 0 0 0"
# The last of b and a is kept in mind.
LAST = "letters m b a/plain 0 1 2/good 1 1 2/plain 2 1 2"
LONE = "letters a/good 0"

# What a front is told first; the names are of every kind.
START = [
    f"sharing s {SHARE}", f"machine c {COUNT}", f"machine l {LAST}", f"machine o {LONE}", "hall h s c", "do h m a",
]

# Every kind of row, with its answer behind the start.
ROWS = [
    (f"sharing n {SHARE}", "ok"),
    (f"machine n {COUNT}", "ok"),
    ("hall n s c", "ok"),
    ("twin n h", "ok"),
    ("least n c", "ok"),
    ("turned n c", "ok"),
    ("both n c l", "ok"),
    ("either n c l", "ok"),
    ("show s", SHARE_SHOWN),
    ("notice s l", "b a , a b"),
    ("do h b a m", "b.0 a.1 m.1"),
    ("lets h", "no"),
    ("state h y", "1"),
    ("sure h x y", "no"),
    ("newer h x y x", "one"),
    ("book h y", None),
]


def started():
    front = Front()
    for row in START:
        front.say(row)
    return front


def answers(front):
    """What the front tells of all that is kept by the start's names, without a change."""
    rows = ["show s", "show c", "show l", "show o", "lets h", "state h x", "state h y", "state h x y", "book h x",
            "book h y",
            "sure h x", "sure h y", "newer h x y x", "newer h x y y", "notice s l", "notice s c"]
    return [front.say(row) for row in rows]


class FrontCase(unittest.TestCase):
    def assert_refused(self, front, row, kind, **told):
        for again in range(2):
            with self.assertRaises(MeetError, msg=repr(row)) as taken:
                front.say(row)
            self.assertIs(taken.exception.__class__, kind, repr(row))
            for name, value in told.items():
                self.assertEqual(getattr(taken.exception, name), value, repr(row))


class Answers(FrontCase):
    def test_each_of_the_rows(self):
        for row, due in ROWS:
            told = started().say(row)
            self.assertIs(told.__class__, str, row)
            if due is not None:
                self.assertEqual(told, due, row)

    def test_all_sixteen_are_here(self):
        self.assertEqual(len({row.split(" ")[0] for row, due in ROWS}), 16)

    def test_show(self):
        front = started()
        self.assertEqual(front.say("show s"), SHARE_SHOWN)
        self.assertEqual(front.say("show c"), COUNT)
        self.assertEqual(front.say("show o"), LONE)

    def test_machines_that_are_made(self):
        front = started()
        count, last = read_machine(COUNT.replace("/", "\n")), read_machine(LAST.replace("/", "\n"))
        for row, due in (
            ("least n l", least(last)), ("turned n l", turned(last)), ("least n c", least(count)),
            ("both n c l", both(count, last)), ("both n l c", both(last, count)),
            ("either n c l", either(count, last)), ("either n l l", either(last, last)),
        ):
            self.assertEqual(front.say(row), "ok")
            self.assertEqual(front.say("show n"), show_machine(due).replace("\n", "/"), row)

    def test_least_of_a_machine_that_is_none(self):
        front = Front()
        front.say("machine m letters a/good 1/good 0/plain 2")
        self.assertEqual(front.say("least k m"), "ok")
        self.assertEqual(front.say("show k"), "letters a/good 0")
        self.assertEqual(front.say("show m"), "letters a/good 1/good 0/plain 2")
        self.assertEqual(front.say("turned k m"), "ok")
        self.assertEqual(front.say("show k"), "letters a/plain 0")

    def test_notice(self):
        front = started()
        self.assertEqual(front.say("notice s c"), "none")
        self.assertEqual(front.say("notice s l"), "b a , a b")
        front.say("machine late letters m b a/plain 1 0 0/plain 1 2 3/good 2 2 2/plain 3 3 3")
        self.assertEqual(front.say("notice s late"), "m b a , m a b")
        front.say("sharing one m x/b x/a x")
        self.assertEqual(front.say("notice one l"), "none")

    def test_do(self):
        front = started()
        self.assertEqual(front.say("do h m"), "m.1")
        self.assertEqual(front.say("do h a a a b"), "a.0 a.1 a.0 b.0")
        self.assertEqual(front.say("do h " + " ".join(["b"] * 60)).split(" ")[0], "b.1")

    def test_state_sure_newer_and_lets(self):
        front = Front()
        front.say("sharing s a x/b y")
        front.say("machine m letters a b/plain 0 1/good 1 1")
        front.say("hall h s m")
        self.assertEqual(front.say("lets h"), "no")
        self.assertEqual(front.say("sure h x"), "open")
        self.assertEqual(front.say("sure h y"), "no")
        self.assertEqual(front.say("newer h x y y"), "same")
        front.say("do h b")
        self.assertEqual(front.say("lets h"), "yes")
        self.assertEqual(front.say("sure h x"), "open")
        self.assertEqual(front.say("sure h y"), "yes")
        self.assertEqual(front.say("state h x"), "0")
        self.assertEqual(front.say("state h y"), "1")
        self.assertEqual(front.say("state h x y x y x y x y"), "1")
        self.assertEqual(front.say("newer h x y y"), "other")
        self.assertEqual(front.say("newer h y x y"), "one")
        self.assertEqual(front.say("newer h y x x"), "same")
        self.assertEqual(front.say("newer h y y y"), "same")

    def test_book(self):
        front = Front()
        front.say("sharing s a x/b y")
        front.say("machine m letters a b/plain 0 1/good 1 1")
        front.say("hall h s m")
        due = "desks x y/x x x -/x x y -/x y x -/x y y -/y x x -/y x y -/y y x -/y y y -/"
        due += "along : 0 1/along x : 0 1/along y : 0 1/along x y : 0 1"
        self.assertEqual(front.say("book h x"), due)
        self.assertEqual(front.say("book h y"), due)
        front.say("do h b")
        self.assertEqual(front.say("book h x"), due)
        due = "desks x y/x x x -/x x y -/x y x -/x y y -/y x x -/y x y -/y y x -/y y y b.0/"
        due += "along : 1 1/along x : 1 1/along y : 0 1/along x y : 0 1"
        self.assertEqual(front.say("book h y"), due)

    def test_held_against_halls(self):
        chance = random.Random(1)
        for rows in HOUSES:
            sharing, machine = Sharing(list(rows)), some_quiet_machine(chance, rows)
            front, hall, past = Front(), Hall(sharing, machine), Past(rows)
            desks = desks_of(rows)
            front.say("sharing s " + show_sharing(sharing).replace("\n", "/"))
            front.say("machine m " + show_machine(machine).replace("\n", "/"))
            self.assertEqual(front.say("notice s m"), "none")
            front.say("hall h s m")
            for turn in range(8):
                row = some_row(chance, rows, chance.randint(1, 7))
                told = [hall.do(letter) for letter in row]
                self.assertEqual(told, [past.do(letter) for letter in row])
                due = " ".join([f"{name}.{mark}" for name, mark in told])
                self.assertEqual(front.say("do h " + " ".join(row)), due)
                self.assertEqual(front.say("lets h"), "yes" if lets_by(machine, past.row) else "no")
                group = [chance.choice(desks) for place in range(chance.randint(1, 8))]
                self.assertEqual(front.say("state h " + " ".join(group)), str(hall.stands(group)))
                self.assertEqual(front.say("sure h " + " ".join(group)), hall.sure(group))
                three = [chance.choice(desks) for place in range(3)]
                due = {1: "one", -1: "other", 0: "same"}[past.newer(*three)]
                self.assertEqual(front.say("newer h " + " ".join(three)), due)
                desk = chance.choice(desks)
                self.assertEqual(front.say(f"book h {desk}"), show_book(hall.book(desk)).replace("\n", "/"))

    def test_asked_again(self):
        front = started()
        self.assertEqual(answers(front), answers(front))
        self.assertEqual(answers(front), answers(started()))

    def test_two_fronts(self):
        one, other = started(), Front()
        self.assert_refused(other, "show s", NoName, name="s")
        other.say("sharing s a x")
        self.assertEqual(one.say("show s"), SHARE_SHOWN)


class NoRows(FrontCase):
    def test_what_is_no_text(self):
        for thing in (None, 0, 5, True, b"lets h", ["lets h"], ("lets", "h"), {"lets": "h"}, 10 ** 40):
            self.assert_refused(started(), thing, NoRow)

    def test_a_word_without_signs(self):
        for row in ("", " ", "  ", " lets h", "lets  h", "lets h ", "lets h  ", "  lets h"):
            self.assert_refused(started(), row, NoRow)

    def test_first_words(self):
        for row in ("x", "shows s", "Show s", "SHOW s", "show/ s", "hall", "halls n s c", "tables s c", "sharing",
                    "ok", "h lets", "do", "known h x", "together s c s c", "-", "~ h", "show.s", "showing s",
                    "new n s c"):
            self.assert_refused(started(), row, NoRow)

    def test_each_word_left_out(self):
        for row, due in ROWS:
            words = row.split(" ")
            if words[0] in ("sharing", "machine"):
                self.assert_refused(started(), words[0], NoRow)
                self.assert_refused(started(), f"{words[0]} n", NoRow)
                continue
            for at in range(len(words)):
                left = words[:at] + words[at + 1:]
                if words[0] in ("do", "state", "sure") and at > 0 and len(left) > 2:
                    continue
                self.assert_refused(started(), " ".join(left), NoRow)

    def test_one_word_more(self):
        for row, due in ROWS:
            if row.split(" ")[0] not in ("sharing", "machine", "do", "state", "sure"):
                self.assert_refused(started(), row + " x", NoRow)
                self.assert_refused(started(), row + " x y", NoRow)

    def test_one_to_sixty_letters(self):
        for many in (1, 2, 59, 60):
            self.assertEqual(len(started().say("do h" + " b" * many).split(" ")), many)
        self.assert_refused(started(), "do h", NoRow)
        self.assert_refused(started(), "do h" + " b" * 61, NoRow)
        self.assert_refused(started(), "do h" + " b" * 200, NoRow)

    def test_one_to_eight_desks(self):
        for word in ("state", "sure"):
            for many in range(1, 9):
                self.assertEqual(started().say(f"{word} h" + " y" * many), started().say(f"{word} h y"))
            self.assert_refused(started(), f"{word} h", NoRow)
            for many in (9, 10, 30):
                self.assert_refused(started(), f"{word} h" + " y" * many, NoRow)

    def test_a_blank_more_at_each_place(self):
        for row, due in ROWS:
            places = [at for at, sign in enumerate(row) if sign == " "]
            if row.split(" ")[0] in ("sharing", "machine"):
                # Behind the second blank all is the text's.
                places = places[:1]
            else:
                places.append(len(row))
            for at in [0] + places:
                self.assert_refused(started(), row[:at] + " " + row[at:], NoRow)

    def test_a_new_without_signs(self):
        self.assert_refused(started(), f"sharing  {SHARE}", NoRow)
        self.assert_refused(started(), f"machine  {COUNT}", NoRow)
        self.assert_refused(started(), "sharing  ", NoRow)
        self.assert_refused(started(), "sharing ", NoRow)
        self.assert_refused(started(), f" sharing n {SHARE}", NoRow)
        self.assert_refused(started(), "hall  s c", NoRow)

    def test_ahead_of_no_name(self):
        for row in ("hall N! s", "hall N! k k k", "twin k", "show k k", "do k", "lets k k", "state k", "newer k x y",
                    "book k", "notice k", "both N! k", "sharing N!", "machine N!", "do k  a", "state k" + " x" * 9,
                    "do k" + " a" * 61, "show K! "):
            self.assert_refused(started(), row, NoRow)

    def test_ahead_of_no_kind(self):
        for row in ("hall n c", "twin n", "twin n s s", "show h h", "do s", "lets s s", "state s", "newer s x y",
                    "book s",
                    "notice c", "notice c s s", "state s " + " ".join(["x"] * 9)):
            self.assert_refused(started(), row, NoRow)

    def test_ahead_of_the_rest(self):
        for row in ("do h strange ", "state h" + " strange" * 9, "book h strange x", "newer h strange x",
                    "do h" + " k" * 61,
                    "notice s o x", "hall n s l x"):
            self.assert_refused(started(), row, NoRow)


class NoNames(FrontCase):
    NOT_NAMES = ["A", "aB", "a1", "1", "abcdefghi", "-", "a-b", "a.b", "a/b", "~", "a_b", "S"]

    def test_a_new_that_is_no_name(self):
        for word in self.NOT_NAMES:
            for rest in ("hall {} s c", "twin {} h", "least {} c", "turned {} c", "both {} c l", "either {} c l",
                         "sharing {} " + SHARE, "machine {} " + COUNT):
                self.assert_refused(started(), rest.format(word), NoName, name=word)

    def test_names_by_which_nothing_is_kept(self):
        for word in ["k", "halls", "abcdefgh", "sharing"] + self.NOT_NAMES:
            for rest in ("hall n {} c", "hall n s {}", "twin n {}", "least n {}", "turned n {}", "both n {} l",
                         "both n c {}", "either n {} l", "either n c {}", "show {}", "notice {} c", "notice s {}",
                         "do {} a", "lets {}", "state {} x", "sure {} x", "newer {} x y x", "book {} x"):
                self.assert_refused(started(), rest.format(word), NoName, name=word)

    def test_the_first_from_the_left(self):
        for row, name in (
            ("hall N k j", "N"), ("hall n k j", "k"), ("hall n s j", "j"), ("hall N s j", "N"), ("hall n k c", "k"),
            ("twin N k", "N"), ("least N k", "N"), ("both N k j", "N"), ("both n k j", "k"), ("both n c j", "j"),
            ("either n j k", "j"), ("notice k j", "k"), ("notice s j", "j"), ("notice j s", "j"),
        ):
            self.assert_refused(started(), row, NoName, name=name)

    def test_a_name_that_was_refused_is_not_kept(self):
        front = started()
        self.assert_refused(front, "sharing n ", NoText, line=1)
        self.assert_refused(front, "show n", NoName, name="n")
        self.assert_refused(front, "hall n s l", Notices)
        self.assert_refused(front, "lets n", NoName, name="n")

    def test_any_name_may_be_new(self):
        front = Front()
        for name in ("a", "abcdefgh", "sharing", "hall", "show", "do", "ok", "z"):
            self.assertEqual(front.say(f"sharing {name} {name} x"), "ok")
        for name in ("a", "abcdefgh", "sharing", "hall", "show", "do", "ok", "z"):
            self.assertEqual(front.say(f"show {name}"), f"{name} x")

    def test_ahead_of_no_kind(self):
        for row, name in (
            ("hall N c s", "N"), ("hall n c k", "k"), ("hall n k s", "k"), ("both n s k", "k"), ("both n h k", "k"),
            ("notice c k", "k"), ("notice k s", "k"), ("twin N s", "N"), ("least N h", "N"), ("either N s s", "N"),
        ):
            self.assert_refused(started(), row, NoName, name=name)

    def test_ahead_of_the_rest(self):
        for row, name in (
            ("sharing N ", "N"), ("machine N letters a a/good 0 0", "N"), ("hall N s l", "N"), ("hall N s o", "N"),
            ("do k strange", "k"), ("state k strange", "k"), ("both N c o", "N"), ("newer k strange x y", "k"),
            ("book k strange", "k"), ("sharing abcdefghi a x/a x", "abcdefghi"),
        ):
            self.assert_refused(started(), row, NoName, name=name)


class NoKinds(FrontCase):
    def test_another_kind_than_is_needed(self):
        for row in (
            "hall n c c", "hall n h c", "hall n s s", "hall n s h", "hall n c s", "twin n s", "twin n c", "least n s",
            "least n h", "turned n s", "turned n h", "both n s c", "both n c s", "both n h c", "both n c h",
            "either n s c",
            "either n c s", "either n h c", "either n c h", "show h", "notice c s", "notice s s", "notice h c",
            "notice s h", "notice c c", "do s a", "do c a",
            "lets s", "lets c", "state s x", "state c x", "sure s x", "sure c x", "newer s x y x", "newer c x y x",
            "book s x", "book c x",
        ):
            self.assert_refused(started(), row, NoKind)

    def test_ahead_of_the_rest(self):
        for row in ("do s strange", "state s strange", "sure c strange", "newer c strange x y", "book s strange",
                    "hall n h l", "notice o o", "both n o s", "hall n c o"):
            self.assert_refused(started(), row, NoKind)

    def test_it_changes_nothing(self):
        front = started()
        kept = answers(front)
        self.assert_refused(front, "twin s c", NoKind)
        self.assert_refused(front, "least h s", NoKind)
        self.assertEqual(answers(front), kept)


class TheRest(FrontCase):
    def test_texts(self):
        for text, kind, told in (
            ("", NoText, {"line": 1}), (" ", NoText, {"line": 1}), ("m", NoText, {"line": 1}),
            ("m x/", NoText, {"line": 2}), ("m x//a x", NoText, {"line": 2}), ("/m x", NoText, {"line": 1}),
            (" m x", NoText, {"line": 1}), ("m x ", NoText, {"line": 1}), ("m  x", NoText, {"line": 1}),
            ("m x/a X", NoText, {"line": 2}), ("/", NoText, {"line": 1}), ("m x/ a x", NoText, {"line": 2}),
            ("m x/m y", Twice, {"name": "m"}), ("m x x", Twice, {"name": "x"}),
        ):
            self.assert_refused(started(), f"sharing n {text}", kind, **told)
        for text, kind, told in (
            ("", NoText, {"line": 1}), ("letters", NoText, {"line": 1}), ("letters a", NoText, {"line": 2}),
            ("letters a/good 0/", NoText, {"line": 3}), ("letters a/good 0 0", NoText, {"line": 2}),
            ("letters a a/good 0 0", Twice, {"name": "a"}), ("letters a/good 1", BadStep, {"state": 0, "letter": "a"}),
            (" letters a/good 0", NoText, {"line": 1}), ("letters a/good 0 ", NoText, {"line": 2}),
        ):
            self.assert_refused(started(), f"machine n {text}", kind, **told)

    def test_what_the_functions_refuse(self):
        for row, kind, told in (
            ("hall n s o", OtherLetters, {}), ("notice s o", OtherLetters, {}), ("both n c o", OtherLetters, {}),
            ("either n o c", OtherLetters, {}), ("hall n s l", Notices, {"one": ["b", "a"], "other": ["a", "b"]}),
            ("do h k", NoLetter, {"letter": "k"}), ("do h a k j", NoLetter, {"letter": "k"}),
            ("do h A", NoLetter, {"letter": "A"}), ("do h x", NoLetter, {"letter": "x"}),
            ("do h m.0", NoLetter, {"letter": "m.0"}),
            ("state h k", NoDesk, {"desk": "k"}), ("state h x K! j", NoDesk, {"desk": "K!"}),
            ("sure h m x", NoDesk, {"desk": "m"}), ("sure h x y x y k", NoDesk, {"desk": "k"}),
            ("newer h k j x", NoDesk, {"desk": "k"}), ("newer h x j k", NoDesk, {"desk": "j"}),
            ("newer h x y k", NoDesk, {"desk": "k"}), ("newer h - x y", NoDesk, {"desk": "-"}),
            ("book h k", NoDesk, {"desk": "k"}), ("book h X", NoDesk, {"desk": "X"}),
        ):
            self.assert_refused(started(), row, kind, **told)

    def test_of_a_row_do_with_a_strange_letter_none_is_done(self):
        for at in range(6):
            front = started()
            kept = answers(front)
            words = ["m", "b", "a", "b", "m", "a"]
            words[at] = "strange"
            self.assert_refused(front, "do h " + " ".join(words), NoLetter, letter="strange")
            self.assertEqual(answers(front), kept)
            self.assertEqual(front.say("do h b"), "b.0")

    def test_what_is_refused_changes_nothing(self):
        front = started()
        kept = answers(front)
        for row in ("sharing s ", "sharing s m x/m x", "machine c letters a/good 1", "machine s letters a",
                    "hall h s l",
                    "hall s s o", "both c c o", "do h a a k", "state h k", "book h k", "lets", "", "twin h s", "show k",
                    "hall H s c", "either l o c", "newer h x y k", "sharing h /", "machine h "):
            with self.assertRaises(MeetError, msg=row):
                front.say(row)
            self.assertEqual(answers(front), kept, row)


class Texts(FrontCase):
    def test_slashes_for_line_feeds(self):
        front = Front()
        for text in ("a x", "a x/b y", "b y z/a x/c x y z"):
            self.assertEqual(front.say(f"sharing s {text}"), "ok")
            self.assertEqual(front.say("show s"), text)

    def test_all_behind_the_second_blank(self):
        front = Front()
        front.say("machine m letters show do/plain 1 0/good 0 1")
        self.assertEqual(front.say("show m"), "letters show do/plain 1 0/good 0 1")
        self.assert_refused(front, "machine m  letters a/good 0", NoText, line=1)
        self.assert_refused(front, "sharing s a x ", NoText, line=1)
        self.assert_refused(front, "sharing s a x/", NoText, line=2)
        self.assert_refused(front, "sharing s a x/b y/", NoText, line=3)
        self.assert_refused(front, "sharing s ", NoText, line=1)
        self.assert_refused(front, "sharing s    ", NoText, line=1)

    def test_any_text(self):
        for text in ("~", "!", "a,b", "%", "a x//", "letters", "a x\\b y", "a=b", "'", '"'):
            self.assert_refused(Front(), f"sharing s {text}", NoText)

    def test_shown_with_the_desks_rising(self):
        front = Front()
        front.say("sharing s b z y/a y x")
        self.assertEqual(front.say("show s"), "b y z/a x y")


class Kept(FrontCase):
    def test_a_name_given_anew(self):
        front = started()
        self.assertEqual(front.say("sharing s a x"), "ok")
        self.assertEqual(front.say("show s"), "a x")
        self.assertEqual(front.say("machine c letters a/plain 0"), "ok")
        self.assertEqual(front.say("show c"), "letters a/plain 0")
        self.assertEqual(front.say("hall h s c"), "ok")
        self.assertEqual(front.say("do h a"), "a.0")

    def test_a_name_given_to_another_kind_of_thing(self):
        front = started()
        front.say(f"machine s {LAST}")
        self.assertEqual(front.say("show s"), LAST)
        self.assert_refused(front, "hall n s c", NoKind)
        front.say("sharing c a x")
        self.assert_refused(front, "least n c", NoKind)
        front.say("twin l h")
        self.assertEqual(front.say("lets l"), front.say("lets h"))
        self.assert_refused(front, "show l", NoKind)
        front.say("machine h letters a/good 0")
        self.assert_refused(front, "lets h", NoKind)
        self.assertEqual(front.say("show h"), "letters a/good 0")
        self.assertEqual(front.say("do l m"), "m.1")

    def test_halls_and_twins_go_on(self):
        front = started()
        due = started()
        front.say("twin t h")
        due.say("twin t h")
        front.say("sharing s q z")
        front.say("machine c letters q/good 0")
        for row in ("do h b m a a", "do t a b", "lets h", "lets t", "state h x y", "state t x", "book h x", "book t y",
                    "sure h y", "sure t x", "newer t x y x"):
            self.assertEqual(front.say(row), due.say(row), row)
        front.say("sharing h a x")
        for row in ("do t m m", "state t x y", "book t x", "twin u t"):
            self.assertEqual(front.say(row), due.say(row), row)
        for row in ("twin t u", "do u a", "book u x", "book t x"):
            self.assertEqual(front.say(row), due.say(row), row)

    def test_a_twin_goes_its_own_way(self):
        front = started()
        front.say("twin t h")
        self.assertEqual(front.say("state t x y"), "2")
        front.say("do t b")
        self.assertEqual(front.say("state t x y"), "0")
        self.assertEqual(front.say("state h x y"), "2")
        front.say("do h a a")
        self.assertEqual(front.say("state h x y"), "1")
        self.assertEqual(front.say("state t x y"), "0")

    def test_new_that_is_called_like_what_it_is_made_of(self):
        front = started()
        self.assertEqual(front.say("turned c c"), "ok")
        self.assertEqual(front.say("show c"), "letters m b a/plain 1 1 1/good 2 2 2/good 0 0 0")
        self.assertEqual(front.say("turned c c"), "ok")
        self.assertEqual(front.say("show c"), COUNT)
        self.assertEqual(front.say("both c c c"), "ok")
        self.assertEqual(front.say("show c"), COUNT)
        self.assertEqual(front.say("twin h h"), "ok")
        self.assertEqual(front.say("state h x y"), "2")
        self.assertEqual(front.say("hall s s c"), "ok")
        self.assertEqual(front.say("state s x y"), "0")
        self.assert_refused(front, "show s", NoKind)
        self.assert_refused(front, "hall k s c", NoKind)

    def test_halls_of_one_sharing_and_machine(self):
        front = started()
        front.say("hall g s c")
        front.say("do g b")
        self.assertEqual((front.say("state g x y"), front.say("state h x y")), ("1", "2"))

    def test_the_same_name_in_all_places(self):
        front = Front()
        front.say("machine a letters a/plain 1/good 0")
        self.assertEqual(front.say("either a a a"), "ok")
        self.assertEqual(front.say("show a"), "letters a/plain 1/good 0")
        front.say("sharing s a a")
        front.say("hall a s a")
        self.assertEqual(front.say("do a a a a"), "a.0 a.1 a.0")
        self.assertEqual(front.say("newer a a a a"), "same")
        self.assertEqual(front.say("lets a"), "yes")

    def test_notices_are_those_of_notice(self):
        front = started()
        due = notice(read_sharing(SHARE.replace("/", "\n")), read_machine(LAST.replace("/", "\n")))
        self.assertEqual(front.say("notice s l"), " ".join(due[0]) + " , " + " ".join(due[1]))

    def test_the_letters_of_sharing_and_machine(self):
        for rows in HOUSES:
            front = Front()
            front.say("sharing s " + show_sharing(Sharing(list(rows))).replace("\n", "/"))
            letters = letters_of(rows)
            for other in itertools.islice(itertools.permutations(letters), 4):
                front.say("machine m letters " + " ".join(other) + "/good" + " 0" * len(letters))
                if list(other) == letters:
                    self.assertEqual(front.say("hall h s m"), "ok")
                else:
                    self.assert_refused(front, "hall h s m", OtherLetters)


if __name__ == "__main__":
    unittest.main()
