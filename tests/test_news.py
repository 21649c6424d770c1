"""News: points 2, 3, 7, 13, 20, 21, 22 and 27, and the interface's meetdesks/news.py."""

import itertools
import random
import unittest

from meetdesks.errors import NoLetter
from meetdesks.history import known, news_at
from meetdesks.news import News, knows, mark_for, met_news, newer, opened_news
from meetdesks.sharing import Sharing
from plain import (
    ALONE, APART, FULL, HOUSES, LINE, PAIR, RING, STAR, Past, RefusalCase, desks_of, letters_of, past_of,
    rows_up_to, shuffled, some_row, some_sharing,
)

OPENING = ("", 0)


def all_opening(desks):
    return {triple: OPENING for triple in itertools.product(desks, repeat=3)}


def one_label(desks, triple, label):
    """News in which one label is not the opening's."""
    labels = all_opening(desks)
    labels[triple] = label
    return News(tuple(desks), labels)


def is_second_hand(triple):
    return triple[1] == triple[2]


class Run:
    """A run by met_news alone, beside the plain past of the same letters."""

    def __init__(self, rows):
        self.sharing = Sharing(list(rows))
        self.past = Past(rows)
        self.news = {desk: opened_news(self.sharing) for desk in self.sharing.desks}

    def do(self, letter):
        desks = self.sharing.meet(letter)
        label, news = met_news(self.sharing, letter, {desk: self.news[desk] for desk in desks})
        for desk in desks:
            self.news[desk] = news
        return label, self.past.do(letter)


def run_of(rows, row):
    done = Run(rows)
    for letter in row:
        done.do(letter)
    return done


class Fields(unittest.TestCase):
    def test_desks_and_labels(self):
        labels = {triple: ("a", at) for at, triple in enumerate(itertools.product(("p", "q"), repeat=3))}
        news = News(("p", "q"), labels)
        self.assertEqual(news.desks, ("p", "q"))
        self.assertIs(news.desks.__class__, tuple)
        self.assertEqual(news.labels, labels)
        self.assertIs(news.labels.__class__, dict)

    def test_the_dict_handed_in_is_copied(self):
        labels = all_opening(["p", "q"])
        news = News(("p", "q"), labels)
        self.assertIsNot(news.labels, labels)
        labels[("p", "p", "p")] = ("a", 0)
        labels.pop(("q", "q", "q"))
        self.assertEqual(news.labels, all_opening(["p", "q"]))
        self.assertIs(knows(news, ("a", 0)), False)
        labels.clear()
        self.assertEqual(news.labels, all_opening(["p", "q"]))

    def test_the_dict_kept_is_not_the_one_handed_in(self):
        labels = all_opening(["p"])
        news = News(("p",), labels)
        news.labels[("p", "p", "p")] = ("a", 3)
        self.assertEqual(labels, all_opening(["p"]))

    def test_two_of_one_dict(self):
        labels = all_opening(["p"])
        one, other = News(("p",), labels), News(("p",), labels)
        one.labels[("p", "p", "p")] = ("a", 3)
        self.assertEqual(other.labels, all_opening(["p"]))


class OpenedNews(unittest.TestCase):
    def test_the_opening_at_all_triples(self):
        for rows in HOUSES:
            news = opened_news(Sharing(list(rows)))
            self.assertIsInstance(news, News)
            self.assertEqual(news.desks, tuple(desks_of(rows)))
            self.assertEqual(news.labels, all_opening(desks_of(rows)))
            self.assertEqual(len(news.labels), len(desks_of(rows)) ** 3)

    def test_desks_rising(self):
        news = opened_news(Sharing([("a", ("z", "b")), ("b", ("m", "aa"))]))
        self.assertEqual(news.desks, ("aa", "b", "m", "z"))

    def test_each_is_the_asker_s_own(self):
        sharing = Sharing(list(PAIR))
        one = opened_news(sharing)
        one.labels[("x", "x", "x")] = ("a", 0)
        self.assertEqual(opened_news(sharing).labels, all_opening(["x", "y"]))
        one.labels.clear()
        self.assertEqual(opened_news(sharing).labels, all_opening(["x", "y"]))


class Knows(unittest.TestCase):
    def test_behind_the_opening(self):
        news = opened_news(Sharing(list(LINE)))
        self.assertIs(knows(news, OPENING), True)
        self.assertIs(knows(news, ("z", 0)), False)
        self.assertIs(knows(news, ("", 1)), False)

    def test_at_each_triple_alone(self):
        for desks in (["p"], ["p", "q"], ["p", "q", "r"], ["p", "q", "r", "s"]):
            for triple in itertools.product(desks, repeat=3):
                news = one_label(desks, triple, ("a", 2))
                self.assertIs(knows(news, ("a", 2)), is_second_hand(triple), triple)
                self.assertIs(knows(news, ("a", 1)), False)
                self.assertIs(knows(news, ("b", 2)), False)

    def test_the_third_hand_alone_is_not_known(self):
        news = one_label(["p", "q"], ("p", "p", "q"), ("a", 0))
        self.assertIs(knows(news, ("a", 0)), False)
        news = one_label(["p", "q", "r"], ("p", "q", "r"), ("a", 0))
        self.assertIs(knows(news, ("a", 0)), False)

    def test_letter_and_mark_both_count(self):
        news = one_label(["p", "q"], ("p", "q", "q"), ("ab", 10))
        for label in (("ab", 1), ("a", 10), ("ab", 0), ("b", 10), ("", 10), ("ab", 100)):
            self.assertIs(knows(news, label), False, label)
        self.assertIs(knows(news, ("ab", 10)), True)

    def test_fields_changed_and_put_back(self):
        news = opened_news(Sharing(list(PAIR)))
        for triple in itertools.product(("x", "y"), repeat=3):
            news.labels[triple] = ("m", 7)
            self.assertIs(knows(news, ("m", 7)), is_second_hand(triple))
            news.labels[triple] = OPENING
            self.assertIs(knows(news, ("m", 7)), False)
        kept = dict(news.labels)
        for triple in kept:
            news.labels[triple] = ("m", 1)
        self.assertIs(knows(news, OPENING), False)
        self.assertIs(knows(news, ("m", 1)), True)
        news.labels = kept
        self.assertIs(knows(news, OPENING), True)
        self.assertIs(knows(news, ("m", 1)), False)

    def test_nothing_is_changed(self):
        news = one_label(["p", "q"], ("p", "q", "q"), ("a", 0))
        kept = dict(news.labels)
        knows(news, ("a", 0))
        knows(news, ("b", 0))
        self.assertEqual(news.labels, kept)


class MarkFor(unittest.TestCase):
    def test_a_letter_that_no_label_has(self):
        for rows in HOUSES:
            news = opened_news(Sharing(list(rows)))
            for letter in letters_of(rows):
                self.assertEqual(mark_for(letter, news), 0)

    def marks(self, desks, labels):
        """News whose labels are these, one behind the other, the opening's at all other triples."""
        told = all_opening(desks)
        told.update(zip(told, labels))
        return News(tuple(desks), told)

    def test_dense_from_0_on(self):
        for many in range(28):
            news = self.marks(["p", "q", "r"], [("a", mark) for mark in range(many)])
            self.assertEqual(mark_for("a", news), many)
            self.assertEqual(mark_for("b", news), 0)

    def test_gaps(self):
        for marks, due in (([1], 0), ([0, 2], 1), ([2, 1, 0, 4], 3), ([5, 0, 1, 1, 0], 2), ([7, 6, 5], 0)):
            news = self.marks(["p", "q"], [("a", mark) for mark in marks])
            self.assertEqual(mark_for("a", news), due, marks)

    def test_other_letters_do_not_count(self):
        news = self.marks(["p", "q"], [("a", 0), ("b", 1), ("ab", 2), ("a", 3), ("b", 0)])
        self.assertEqual(mark_for("a", news), 1)
        self.assertEqual(mark_for("b", news), 2)
        self.assertEqual(mark_for("ab", news), 0)
        self.assertEqual(mark_for("c", news), 0)

    def test_every_hand_counts(self):
        for triple in itertools.product(("p", "q", "r"), repeat=3):
            news = one_label(["p", "q", "r"], triple, ("a", 0))
            self.assertEqual(mark_for("a", news), 1, triple)
            self.assertEqual(mark_for("b", news), 0, triple)

    def test_at_the_third_hand_alone(self):
        labels = all_opening(["p", "q", "r"])
        for at, triple in enumerate([("p", "q", "r"), ("q", "r", "p"), ("p", "p", "q"), ("r", "q", "r")]):
            labels[triple] = ("a", at)
        self.assertEqual(mark_for("a", News(("p", "q", "r"), labels)), 4)

    def test_all_labels_of_one_letter(self):
        labels = {triple: ("a", at) for at, triple in enumerate(itertools.product("pqrs", repeat=3))}
        self.assertEqual(mark_for("a", News(("p", "q", "r", "s"), labels)), 64)

    def test_a_whole_number_and_the_same_again(self):
        news = self.marks(["p", "q"], [("a", 1), ("a", 0)])
        for again in range(3):
            self.assertIs(mark_for("a", news).__class__, int)
            self.assertEqual(mark_for("a", news), 2)
        news.labels[("q", "q", "q")] = ("a", 2)
        self.assertEqual(mark_for("a", news), 3)


class Newer(unittest.TestCase):
    def assert_newer(self, done):
        """Every two desks and each third one, held against the whole history."""
        for one, other, desk in itertools.product(done.sharing.desks, repeat=3):
            told = newer(done.news[one], done.news[other], desk)
            self.assertIs(told.__class__, int)
            self.assertEqual(told, done.past.newer(one, other, desk), (done.past.row, one, other, desk))

    def test_behind_the_opening(self):
        for rows in HOUSES:
            self.assert_newer(Run(rows))

    def test_one_two_and_the_same(self):
        done = run_of(LINE, ["z", "m", "b"])
        news = done.news
        self.assertEqual(newer(news["p"], news["q"], "p"), 1)
        self.assertEqual(newer(news["q"], news["p"], "p"), -1)
        self.assertEqual(newer(news["p"], news["q"], "q"), -1)
        self.assertEqual(newer(news["q"], news["r"], "p"), 0)
        self.assertEqual(newer(news["p"], news["s"], "r"), 0)
        self.assertEqual(newer(news["s"], news["r"], "r"), -1)
        self.assertEqual(newer(news["p"], news["p"], "q"), 0)

    def test_short_rows(self):
        for rows, most in ((ALONE, 4), (PAIR, 6), (APART, 4), (LINE, 4), (RING, 6), (FULL, 3), (STAR, 4)):
            for row in rows_up_to(letters_of(rows), most):
                if len(row) == most:
                    self.assert_newer(run_of(rows, row))

    def test_long_rows(self):
        chance = random.Random(1)
        for rows in HOUSES:
            done = Run(rows)
            for letter in some_row(chance, rows, 90):
                done.do(letter)
                self.assert_newer(done)

    def test_a_label_that_is_used_again(self):
        # A desk alone with a letter has marks 0, 1, 0, 1: at the third meeting the first one's again.
        done = run_of(PAIR, ["a", "a", "a", "m", "a", "a", "a"])
        self.assert_newer(done)
        self.assertEqual(newer(done.news["x"], done.news["y"], "x"), 1)
        self.assertEqual(newer(done.news["x"], done.news["y"], "y"), 0)

    def test_nothing_is_changed(self):
        done = run_of(LINE, ["z", "m", "b", "a"])
        kept = {desk: dict(done.news[desk].labels) for desk in done.news}
        self.assert_newer(done)
        self.assert_newer(done)
        self.assertEqual({desk: done.news[desk].labels for desk in done.news}, kept)


class MetNews(RefusalCase):
    def assert_news(self, done):
        """All desks' news, held against the whole history."""
        for desk in done.sharing.desks:
            self.assertEqual(done.news[desk].desks, done.sharing.desks)
            self.assertEqual(done.news[desk].labels, done.past.label_news(desk), (done.past.row, desk))

    def assert_run(self, rows, row):
        done = Run(rows)
        for letter in row:
            told, due = done.do(letter)
            self.assertIs(told.__class__, tuple)
            self.assertEqual(told, due, done.past.row)
            self.assert_news(done)

    def test_one_meeting(self):
        sharing = Sharing(list(PAIR))
        told = met_news(sharing, "a", {"x": opened_news(sharing)})
        self.assertIs(told.__class__, tuple)
        self.assertEqual(len(told), 2)
        label, news = told
        self.assertEqual(label, ("a", 0))
        self.assertIsInstance(news, News)
        self.assertEqual(news.desks, ("x", "y"))
        due = all_opening(["x", "y"])
        due[("x", "x", "x")] = ("a", 0)
        self.assertEqual(news.labels, due)

    def test_two_desks(self):
        sharing = Sharing(list(PAIR))
        label, mine = met_news(sharing, "a", {"x": opened_news(sharing)})
        label, both = met_news(sharing, "m", {"x": mine, "y": opened_news(sharing)})
        self.assertEqual(label, ("m", 0))
        self.assertEqual(both.labels, {triple: ("m", 0) for triple in all_opening(["x", "y"])})

    def test_the_first_desk_rising_gives_the_mark(self):
        # y has heard of no m behind its meeting with z; x is the first of m's desks.
        rows = [("m", ("y", "x")), ("z", ("z", "y"))]
        done = run_of(rows, ["m", "z"])
        label, news = met_news(done.sharing, "m", {"y": done.news["y"], "x": done.news["x"]})
        self.assertEqual(label, ("m", mark_for("m", done.news["x"])))
        empty = opened_news(done.sharing)
        label, news = met_news(done.sharing, "m", {"y": done.news["y"], "x": empty})
        self.assertEqual(label, ("m", 0))

    def test_short_rows(self):
        for rows, most in ((ALONE, 5), (PAIR, 6), (APART, 4), (LINE, 4), (RING, 6), (FULL, 3), (STAR, 4)):
            for row in rows_up_to(letters_of(rows), most):
                if len(row) == most:
                    self.assert_run(rows, row)

    def test_long_rows(self):
        chance = random.Random(2)
        for rows in HOUSES:
            self.assert_run(rows, some_row(chance, rows, 120))

    def test_many_sharings(self):
        chance = random.Random(3)
        for turn in range(60):
            rows = some_sharing(chance, most_letters=6)
            self.assert_run(rows, some_row(chance, rows, 40))

    def test_any_order_of_the_dict(self):
        chance = random.Random(4)
        for rows in HOUSES:
            done = run_of(rows, some_row(chance, rows, 30))
            for letter in letters_of(rows):
                told = []
                for desks in itertools.permutations(done.sharing.meet(letter)):
                    label, news = met_news(done.sharing, letter, {desk: done.news[desk] for desk in desks})
                    told.append((label, news.desks, news.labels))
                for other in told:
                    self.assertEqual(other, told[0])

    def test_one_history_leaves_the_same_news(self):
        chance = random.Random(5)
        for rows in HOUSES:
            row = some_row(chance, rows, 40)
            done, other = run_of(rows, row), run_of(rows, shuffled(chance, rows, row, 400))
            for desk in done.sharing.desks:
                self.assertEqual(done.news[desk].labels, other.news[desk].labels)

    def test_what_is_handed_in_stays(self):
        chance = random.Random(6)
        for rows in HOUSES:
            done = run_of(rows, some_row(chance, rows, 25))
            for letter in letters_of(rows):
                some = {desk: done.news[desk] for desk in done.sharing.meet(letter)}
                kept = dict(some)
                labels = {desk: dict(news.labels) for desk, news in some.items()}
                first = met_news(done.sharing, letter, some)
                first[1].labels.clear()
                again = met_news(done.sharing, letter, some)
                self.assertEqual(first[0], again[0])
                self.assertEqual(some, kept)
                self.assertEqual({desk: news.labels for desk, news in some.items()}, labels)
                self.assertEqual(len(again[1].labels), len(done.sharing.desks) ** 3)

    def test_what_is_changed_later_changes_nothing_told(self):
        sharing = Sharing(list(PAIR))
        some = {"x": opened_news(sharing), "y": opened_news(sharing)}
        label, news = met_news(sharing, "m", some)
        kept = dict(news.labels)
        some["x"].labels.clear()
        some["y"].labels[("x", "y", "x")] = ("b", 3)
        some.clear()
        self.assertEqual(news.labels, kept)

    def test_strange_letters(self):
        for rows in HOUSES:
            sharing = Sharing(list(rows))
            for letter in ("strange", "", "zz", desks_of(rows)[0] * 3):
                for some in ({}, {desk: opened_news(sharing) for desk in sharing.desks}):
                    self.assert_refused(NoLetter, {"letter": letter}, met_news, sharing, letter, some)


class Marks(unittest.TestCase):
    """Labels over long runs."""

    def test_no_mark_is_greater_than_promised(self):
        chance = random.Random(7)
        for rows in HOUSES:
            done = Run(rows)
            sharing = done.sharing
            most = len(sharing.desks) ** 3
            news = done.news
            for letter in some_row(chance, rows, 1500):
                desks = sharing.meet(letter)
                label, told = met_news(sharing, letter, {desk: news[desk] for desk in desks})
                self.assertLessEqual(label[1], most)
                self.assertGreaterEqual(label[1], 0)
                for desk in desks:
                    news[desk] = told

    def test_runs_in_which_one_desk_is_left_behind(self):
        # Desks that meet seldom keep old labels in mind for long.
        chance = random.Random(8)
        for rows in (LINE, RING, FULL, STAR):
            done = Run(rows)
            most = len(done.sharing.desks) ** 3
            for turn in range(12):
                letters = chance.sample(letters_of(rows), 2)
                for place in range(12):
                    label, due = done.do(chance.choice(letters))
                    self.assertEqual(label, due)
                    self.assertLessEqual(label[1], most)

    def test_marks_are_used_again(self):
        done = Run(ALONE)
        marks = [done.do("a")[0][1] for turn in range(50)]
        self.assertEqual(marks, [0, 1] * 25)

    def test_labels_at_the_first_and_second_hand_are_one_meeting_s(self):
        chance = random.Random(9)
        again = 0
        for rows in HOUSES:
            past = Past(rows)
            for letter in some_row(chance, rows, 150):
                past.do(letter)
                spoken = {}
                for desk in past.desks:
                    for triple, number in past.news(desk).items():
                        if is_second_hand(triple):
                            spoken.setdefault(past.labels[number], set()).add(number)
                for label, numbers in spoken.items():
                    self.assertEqual(len(numbers), 1, (rows, past.row, label))
            again += len(set(past.labels)) < len(past.labels)
        self.assertEqual(again, len(HOUSES))

    def test_what_is_known_is_told_by_labels(self):
        # Point 22: the news of p of x is known to q just where its label stands in q's at the first or second hand.
        chance = random.Random(10)
        for rows in HOUSES:
            done = run_of(rows, some_row(chance, rows, 60))
            past = done.past
            for p, q, x in itertools.product(done.sharing.desks, repeat=3):
                due = past.first_meeting(p, x) in past.known([q])
                self.assertIs(knows(done.news[q], done.news[p].labels[(x, x, x)]), due)

    def test_the_plain_past_is_the_history_s(self):
        # The reckoning that all is held against, held against a hand's own count.
        past = past_of(PAIR, ["a", "a", "m", "b"])
        self.assertEqual(past.labels, [("", 0), ("a", 0), ("a", 1), ("m", 0), ("b", 0)])
        self.assertEqual(past.known(["x"]), {0, 1, 2, 3})
        self.assertEqual(past.known(["y"]), {0, 1, 2, 3, 4})
        self.assertEqual(past.left_of("y", ("x",)), [4])
        self.assertEqual(past.newer("x", "y", "y"), -1)
        chance = random.Random(11)
        for rows in HOUSES:
            past = past_of(rows, some_row(chance, rows, 30))
            for desk in past.desks:
                self.assertEqual(past.news(desk), news_at(Sharing(list(rows)), past.row, desk))
                self.assertEqual(sorted(past.known([desk])), known(Sharing(list(rows)), past.row, [desk]))


if __name__ == "__main__":
    unittest.main()
