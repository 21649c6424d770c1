"""Books: points 2, 3, 7, 23 and 24, and the interface's meetdesks/books.py."""

import itertools
import random
import unittest

from meetdesks.books import Book, met, opened, poured
from meetdesks.errors import NoLetter
from meetdesks.least import least
from meetdesks.machine import Machine
from meetdesks.maps import along, staying
from meetdesks.news import News, opened_news
from meetdesks.notice import notice
from meetdesks.sharing import Sharing
from plain import (
    ALONE, APART, FULL, HOUSES, LINE, PAIR, RING, STAR, Past, RefusalCase, book_fields, desks_of, fields,
    letters_of, rows_up_to, sets_in, shuffled, some_quiet_machine, some_row, some_sharing,
)


class Run:
    """A run by met alone, beside the plain past of the same letters."""

    def __init__(self, rows, machine):
        self.sharing = Sharing(list(rows))
        self.machine = machine
        self.past = Past(rows)
        self.books = {desk: opened(self.sharing, machine) for desk in self.sharing.desks}

    def some(self, desks):
        return {desk: self.books[desk] for desk in desks}

    def do(self, letter):
        desks = self.sharing.meet(letter)
        label, book = met(self.sharing, self.machine, letter, self.some(desks))
        for desk in desks:
            self.books[desk] = Book(book.news, book.maps)
        return label, self.past.do(letter)


def run_of(rows, machine, row):
    done = Run(rows, machine)
    for letter in row:
        done.do(letter)
    return done


def some_run(chance, rows, many):
    return run_of(rows, least(some_quiet_machine(chance, rows)), some_row(chance, rows, many))


def counter(letters, many):
    """Each letter counts one, round and round: a least form that takes no notice."""
    return Machine(list(letters), [[(state + 1) % many] * len(letters) for state in range(many)], [0])


class Fields(unittest.TestCase):
    def setUp(self):
        self.sharing = Sharing(list(PAIR))
        self.news = opened_news(self.sharing)
        self.maps = {some: (1, 0) for some in sets_in(["x", "y"])}

    def test_news_and_maps(self):
        book = Book(self.news, self.maps)
        self.assertIsInstance(book.news, News)
        self.assertEqual(book.news.desks, ("x", "y"))
        self.assertEqual(book.news.labels, self.news.labels)
        self.assertEqual(book.maps, self.maps)
        self.assertIs(book.maps.__class__, dict)

    def test_copies_are_kept(self):
        book = Book(self.news, self.maps)
        kept = book_fields(book)
        self.assertIsNot(book.news, self.news)
        self.assertIsNot(book.maps, self.maps)
        self.news.labels[("x", "x", "x")] = ("a", 0)
        self.maps[()] = (0, 0)
        self.maps.pop(("x",))
        self.assertEqual(book_fields(book), kept)
        self.news.labels.clear()
        self.maps.clear()
        self.assertEqual(book_fields(book), kept)

    def test_what_is_done_to_a_book_is_not_done_to_what_it_was_made_of(self):
        book = Book(self.news, self.maps)
        book.news.labels.clear()
        book.maps.clear()
        self.assertEqual(len(self.news.labels), 8)
        self.assertEqual(len(self.maps), 4)

    def test_a_book_made_of_a_book(self):
        book = Book(self.news, self.maps)
        other = Book(book.news, book.maps)
        book.news.labels[("y", "y", "y")] = ("b", 4)
        book.maps[("x", "y")] = (0, 0)
        self.assertEqual(other.news.labels, self.news.labels)
        self.assertEqual(other.maps, self.maps)


class Opened(unittest.TestCase):
    def test_all_maps_lead_each_state_to_itself(self):
        for rows in HOUSES:
            for many in (1, 2, 24):
                book = opened(Sharing(list(rows)), counter(letters_of(rows), many))
                self.assertIsInstance(book, Book)
                self.assertEqual(book.news.desks, tuple(desks_of(rows)))
                self.assertEqual(set(book.news.labels.values()), {("", 0)})
                self.assertEqual(len(book.news.labels), len(desks_of(rows)) ** 3)
                self.assertEqual(book.maps, {some: staying(many) for some in sets_in(desks_of(rows))})
                self.assertEqual(len(book.maps), 2 ** len(desks_of(rows)))

    def test_each_is_the_asker_s_own(self):
        sharing, machine = Sharing(list(PAIR)), counter("mba", 3)
        one = opened(sharing, machine)
        kept = book_fields(one)
        other = opened(sharing, machine)
        one.maps.clear()
        one.news.labels.clear()
        self.assertEqual(book_fields(other), kept)
        self.assertEqual(book_fields(opened(sharing, machine)), kept)


class MetBooks(RefusalCase):
    def assert_books(self, done):
        """The news and the maps of all sets of desks of each desk, held against the whole history."""
        past = done.past
        for desk, book in done.books.items():
            self.assertEqual(book.news.labels, past.label_news(desk), (past.row, desk))
            due = {some: along(done.machine, past.row, past.left_of(desk, some)) for some in sets_in(past.desks)}
            self.assertEqual(book.maps, due, (past.row, desk))

    def assert_run(self, rows, machine, row, every=1):
        done = Run(rows, machine)
        for at, letter in enumerate(row):
            told, due = done.do(letter)
            self.assertIs(told.__class__, tuple)
            self.assertEqual(told, due)
            if at % every == 0 or at + 1 == len(row):
                self.assert_books(done)

    def test_one_meeting(self):
        sharing, machine = Sharing(list(PAIR)), counter("mba", 3)
        told = met(sharing, machine, "a", {"x": opened(sharing, machine)})
        self.assertIs(told.__class__, tuple)
        self.assertEqual(len(told), 2)
        label, book = told
        self.assertEqual(label, ("a", 0))
        self.assertIsInstance(book, Book)
        self.assertEqual(book.maps, {(): (1, 2, 0), ("x",): (0, 1, 2), ("y",): (1, 2, 0), ("x", "y"): (0, 1, 2)})
        for some in book.maps:
            self.assertIs(book.maps[some].__class__, tuple)

    def test_what_one_of_the_set_knows_is_left_out(self):
        sharing, machine = Sharing(list(LINE)), counter("zmaby", 7)
        done = run_of(LINE, machine, ["b", "z", "b", "m", "a"])
        self.assertEqual(done.books["s"].maps[()][0], 4)
        self.assertEqual(done.books["s"].maps[("p",)][0], 2)
        self.assertEqual(done.books["s"].maps[("q",)][0], 1)
        self.assertEqual(done.books["s"].maps[("p", "q")][0], 1)
        self.assertEqual(done.books["s"].maps[("r",)][0], 0)
        self.assertEqual(done.books["p"].maps[("q",)][0], 1)
        self.assertEqual(done.books["p"].maps[("r", "s")][0], 3)
        self.assertIsNone(notice(sharing, machine))

    def test_a_set_that_has_the_desk_itself(self):
        chance = random.Random(1)
        for rows in HOUSES:
            done = some_run(chance, rows, 20)
            for desk, some in itertools.product(done.sharing.desks, sets_in(desks_of(rows))):
                if desk in some:
                    self.assertEqual(done.books[desk].maps[some], staying(len(done.machine.table)))

    def test_short_rows(self):
        chance = random.Random(2)
        for rows, most in ((ALONE, 4), (PAIR, 5), (APART, 4), (LINE, 3), (RING, 5), (FULL, 3), (STAR, 3)):
            machine = least(some_quiet_machine(chance, rows))
            for row in rows_up_to(letters_of(rows), most):
                if len(row) == most:
                    self.assert_run(rows, machine, row, every=most)

    def test_long_rows(self):
        chance = random.Random(3)
        for rows in HOUSES:
            self.assert_run(rows, least(some_quiet_machine(chance, rows)), some_row(chance, rows, 60))
            self.assert_run(rows, counter(letters_of(rows), 24), some_row(chance, rows, 60), every=5)

    def test_many_sharings_and_machines(self):
        chance = random.Random(4)
        sizes = set()
        for turn in range(60):
            rows = some_sharing(chance, most_letters=6)
            machine = least(some_quiet_machine(chance, rows))
            self.assertIsNone(notice(Sharing(rows), machine))
            sizes.add(len(machine.table))
            self.assert_run(rows, machine, some_row(chance, rows, 30), every=3)
        self.assertGreater(max(sizes), 8)

    def test_any_order_of_the_dict(self):
        chance = random.Random(5)
        for rows in HOUSES:
            done = some_run(chance, rows, 25)
            for letter in letters_of(rows):
                told = []
                for desks in itertools.permutations(done.sharing.meet(letter)):
                    label, book = met(done.sharing, done.machine, letter, done.some(desks))
                    told.append((label, book_fields(book)))
                for other in told:
                    self.assertEqual(other, told[0])

    def test_one_history_leaves_the_same_books(self):
        chance = random.Random(6)
        for rows in HOUSES:
            machine = least(some_quiet_machine(chance, rows))
            row = some_row(chance, rows, 40)
            done = run_of(rows, machine, row)
            other = run_of(rows, machine, shuffled(chance, rows, row, 400))
            for desk in done.sharing.desks:
                self.assertEqual(book_fields(done.books[desk]), book_fields(other.books[desk]))

    def test_what_is_handed_in_stays(self):
        chance = random.Random(7)
        for rows in HOUSES:
            done = some_run(chance, rows, 20)
            machine = fields(done.machine)
            for letter in letters_of(rows):
                some = done.some(done.sharing.meet(letter))
                kept, told = dict(some), {desk: book_fields(book) for desk, book in some.items()}
                label, book = met(done.sharing, done.machine, letter, some)
                due = book_fields(book)
                book.maps.clear()
                book.news.labels.clear()
                again, other = met(done.sharing, done.machine, letter, some)
                self.assertEqual((again, book_fields(other)), (label, due))
                self.assertEqual(some, kept)
                self.assertEqual({desk: book_fields(book) for desk, book in some.items()}, told)
            self.assertEqual(fields(done.machine), machine)

    def test_what_is_changed_later_changes_nothing_told(self):
        sharing, machine = Sharing(list(PAIR)), counter("mba", 3)
        some = {"x": opened(sharing, machine), "y": opened(sharing, machine)}
        label, book = met(sharing, machine, "m", some)
        kept = book_fields(book)
        for other in some.values():
            other.maps.clear()
            other.news.labels.clear()
        some.clear()
        self.assertEqual(book_fields(book), kept)

    def test_one_meeting_s_books_are_the_desks_own(self):
        sharing, machine = Sharing(list(PAIR)), counter("mba", 3)
        label, book = met(sharing, machine, "m", {desk: opened(sharing, machine) for desk in ("x", "y")})
        mine, theirs = Book(book.news, book.maps), Book(book.news, book.maps)
        kept = book_fields(theirs)
        mine.maps.clear()
        mine.news.labels.clear()
        book.maps[()] = (0, 0, 0)
        self.assertEqual(book_fields(theirs), kept)
        label, later = met(sharing, machine, "b", {"y": theirs})
        self.assertEqual(later.maps[()], (2, 0, 1))
        self.assertEqual(book_fields(theirs), kept)

    def test_strange_letters(self):
        for rows in HOUSES:
            sharing, machine = Sharing(list(rows)), counter(letters_of(rows), 2)
            for some in ({}, {desk: opened(sharing, machine) for desk in sharing.desks}):
                for letter in ("strange", "", "zz"):
                    self.assert_refused(NoLetter, {"letter": letter}, met, sharing, machine, letter, some)

    def test_a_book_never_grows(self):
        chance = random.Random(8)
        for rows in HOUSES:
            done = some_run(chance, rows, 300)
            many = len(done.sharing.desks)
            for book in done.books.values():
                self.assertEqual(set(book.news.labels), set(itertools.product(done.sharing.desks, repeat=3)))
                self.assertEqual(set(book.maps), set(sets_in(done.sharing.desks)))
                self.assertEqual((len(book.news.labels), len(book.maps)), (many ** 3, 2 ** many))


class Poured(unittest.TestCase):
    def assert_poured(self, done):
        """Every group, held against the map along all that it knows of."""
        for group in sets_in(done.sharing.desks):
            if group:
                told = poured(done.some(group))
                self.assertIs(told.__class__, tuple)
                due = along(done.machine, done.past.row, sorted(done.past.known(group)))
                self.assertEqual(told, due, (done.past.row, group))

    def test_behind_the_opening(self):
        for rows in HOUSES:
            self.assert_poured(Run(rows, counter(letters_of(rows), 3)))

    def test_a_desk_alone_has_its_map_of_no_set(self):
        chance = random.Random(9)
        for rows in HOUSES:
            done = some_run(chance, rows, 20)
            for desk, book in done.books.items():
                self.assertEqual(poured({desk: book}), book.maps[()])

    def test_no_meeting_counts_twice(self):
        done = run_of(LINE, counter("zmaby", 24), ["z", "b", "m", "a", "y", "z"])
        self.assertEqual(poured(done.some(["p", "q"]))[0], 4)
        self.assertEqual(poured(done.some(["p", "s"]))[0], 6)
        self.assertEqual(poured(done.some(["r", "s"]))[0], 4)
        self.assertEqual(poured(done.some(["p", "q", "r", "s"]))[0], 6)

    def test_long_rows(self):
        chance = random.Random(10)
        for rows in HOUSES:
            done = Run(rows, least(some_quiet_machine(chance, rows)))
            for letter in some_row(chance, rows, 60):
                done.do(letter)
                self.assert_poured(done)

    def test_many_sharings(self):
        chance = random.Random(11)
        for turn in range(100):
            rows = some_sharing(chance, most_letters=6)
            self.assert_poured(some_run(chance, rows, 25))
            self.assert_poured(run_of(rows, counter(letters_of(rows), 24), some_row(chance, rows, 23)))

    def test_any_order_of_the_dict(self):
        chance = random.Random(12)
        for rows in HOUSES:
            done = some_run(chance, rows, 30)
            due = poured(done.some(done.sharing.desks))
            for desks in itertools.permutations(done.sharing.desks):
                self.assertEqual(poured(done.some(desks)), due)

    def test_books_changed_emptied_and_asked_again(self):
        done = run_of(LINE, counter("zmaby", 7), ["z", "b", "m", "a", "y", "z"])
        due = poured(done.some(["q", "s"]))
        some = {desk: Book(done.books[desk].news, done.books[desk].maps) for desk in ("q", "s")}
        self.assertEqual(poured(some), due)
        # Objects that are handed in count as they are then.
        some["q"].maps[()] = (0,) * 7
        self.assertEqual(len(set(poured(some))), 1)
        self.assertNotEqual(poured(some), due)
        some["q"].maps.clear()
        some["s"].news.labels.clear()
        some.clear()
        self.assertEqual(poured(done.some(["q", "s"])), due)

    def test_what_is_handed_in_stays(self):
        chance = random.Random(13)
        for rows in HOUSES:
            done = some_run(chance, rows, 20)
            some = done.some(done.sharing.desks)
            kept, told = dict(some), {desk: book_fields(book) for desk, book in some.items()}
            for again in range(2):
                poured(some)
            self.assertEqual(some, kept)
            self.assertEqual({desk: book_fields(book) for desk, book in some.items()}, told)


if __name__ == "__main__":
    unittest.main()
