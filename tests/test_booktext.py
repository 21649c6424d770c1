"""Books' texts: points 2 and 25, and the interface's meetdesks/booktext.py."""

import itertools
import random
import unittest

from meetdesks.books import Book, met, opened
from meetdesks.booktext import read_book, show_book
from meetdesks.errors import MeetError, NoText
from meetdesks.least import least
from meetdesks.machine import Machine
from meetdesks.news import News
from meetdesks.sharing import Sharing
from plain import HOUSES, PAIR, book_fields, desks_of, sets_in, some_quiet_machine, some_row

# Two desks: the row of desks, eight of labels (2 to 9), four of maps (10 to 13).
SMALL = [
    "desks p q",
    "p p p a.0", "p p q b.12", "p q p -", "p q q c.9999", "q p p a.1", "q p q -", "q q p ab.10", "q q q z.7",
    "along : 1 0 2", "along p : 0 1 2", "along q : 2 2 2", "along p q : 0 0 0",
]
SMALL_LABELS = [("a", 0), ("b", 12), ("", 0), ("c", 9999), ("a", 1), ("", 0), ("ab", 10), ("z", 7)]
SMALL_MAPS = {(): (1, 0, 2), ("p",): (0, 1, 2), ("q",): (2, 2, 2), ("p", "q"): (0, 0, 0)}
ONE = ["desks x", "x x x -", "along : 0", "along x : 0"]

# First rows of which none tells desks.
NO_DESKS = [
    "", " ", "desks", "desks ", " desks p", "desks  p", "desks p ", "desks p  q", "desk p", "Desks p", "p", "p q",
    "desks P", "desks p Q", "desks p1", "desks abcdefghi", "desks q p", "desks p p", "desks p q p", "desks p q q",
    "desks b a c", "desks a c b", "desks p,q", "desks p.q", "desks -", "desks 0", "desks a b c d e",
    "desks a b c d e f", "desks: p", "desksp", "along p q", "desks a b c d d",
]

# Rows of which none is the one due at p q q, with whatever label.
NO_LABEL_ROWS = [
    "", " ", "p q q", "p q q ", " p q q a.0", "p  q q a.0", "p q q  a.0", "p q q a.0 ", "p q q a.0 b.0", "p q a.0",
    "p q q q a.0", "q p q a.0", "p q p a.0", "q q q a.0", "p p q a.0", "P q q a.0", "p q r a.0", "desks p q",
    "p q q a", "p q q .", "p q q a.", "p q q .0", "p q q a.00", "p q q a.01", "p q q a.010", "p q q a.0000",
    "p q q a.10000", "p q q a.12345", "p q q a.-1", "p q q a.+1", "p q q a.x", "p q q a.1x", "p q q a..0", "p q q a.0.",
    "p q q a.0.0", "p q q A.0", "p q q aB.0", "p q q abcdefghi.0", "p q q 0.a", "p q q a0", "p q q a,0", "p q q a:0",
    "p q q --", "p q q -.0", "p q q -0", "p q q 0", "p q q a. 0", "p q q a .0", "along : 0 1 2", "p q q ~",
    "p q q : a.0", "pqq a.0", "p q q a.1_0", "p q q a.0x1", "p q q a-0",
]

# Rows of which none is the one due at the set of q alone, where the first map has three states.
NO_MAP_ROWS = [
    "", " ", "along", "along q", "along q :", "along q : ", "along q :0 1 2", "along q 0 1 2", "along q: 0 1 2",
    " along q : 0 1 2", "along  q : 0 1 2", "along q  : 0 1 2", "along q :  0 1 2", "along q : 0  1 2",
    "along q : 0 1 2 ", "Along q : 0 1 2", "alon q : 0 1 2", "q : 0 1 2", "along : 0 1 2", "along p : 0 1 2",
    "along p q : 0 1 2", "along q p : 0 1 2", "along q q : 0 1 2", "along r : 0 1 2", "along Q : 0 1 2",
    "along q : 0 1", "along q : 0", "along q : 0 1 2 0", "along q : 0 1 2 3", "along q : 0 1 3", "along q : 3 1 2",
    "along q : 0 64 2", "along q : 0 100 2", "along q : 00 1 2", "along q : 0 01 2", "along q : 0 1 02",
    "along q : 0 1 002", "along q : 0 1 -1", "along q : 0 1 +1", "along q : 0 1 a", "along q : 0 1 -",
    "along q : 0,1,2",
    "along q : : 0 1 2", "along q : 0 1 2 :", "along q : 0 1 1000", "along q : 0 1 2.", "q q q a.0", "along q ; 0 1 2",
    "desks p q", "along q : 0 1 2 0 1 2",
]


def small_book():
    labels = dict(zip(itertools.product(("p", "q"), repeat=3), SMALL_LABELS))
    return Book(News(("p", "q"), labels), dict(SMALL_MAPS))


def text_of(rows):
    return "\n".join(rows)


def with_row(rows, line, row):
    """The rows with another one in the place of that number."""
    return rows[:line - 1] + [row] + rows[line:]


class TextCase(unittest.TestCase):
    def assert_book(self, told, due):
        self.assertIsInstance(told, Book)
        self.assertIsInstance(told.news, News)
        self.assertEqual(book_fields(told), book_fields(due))
        self.assertIs(told.news.desks.__class__, tuple)
        for label in told.news.labels.values():
            self.assertIs(label.__class__, tuple)
        for states in told.maps.values():
            self.assertIs(states.__class__, tuple)

    def assert_no_text(self, text, line):
        for again in range(2):
            with self.assertRaises(MeetError, msg=repr(text)) as taken:
                read_book(text)
            self.assertIs(taken.exception.__class__, NoText, repr(text))
            self.assertEqual(taken.exception.line, line, repr(text))


class Shown(TextCase):
    def test_a_book(self):
        self.assertEqual(show_book(small_book()), text_of(SMALL))

    def test_behind_the_opening(self):
        sharing = Sharing([("a", ("x",))])
        self.assertEqual(show_book(opened(sharing, Machine(["a"], [[0]], []))), text_of(ONE))
        sharing = Sharing([("b", ("x",)), ("a", ("y",))])
        book = opened(sharing, Machine(["b", "a"], [[1, 0], [0, 1]], [1]))
        triples = [" ".join(triple) + " -" for triple in itertools.product("xy", repeat=3)]
        maps = ["along : 0 1", "along x : 0 1", "along y : 0 1", "along x y : 0 1"]
        self.assertEqual(show_book(book), text_of(["desks x y"] + triples + maps))

    def test_sets_with_fewer_desks_first(self):
        sharing = Sharing([("a", ("d", "b", "c", "a"))])
        rows = show_book(opened(sharing, Machine(["a"], [[0]], []))).split("\n")
        self.assertEqual(rows[0], "desks a b c d")
        self.assertEqual(len(rows), 1 + 64 + 16)
        names = ["", "a", "b", "c", "d", "a b", "a c", "a d", "b c", "b d", "c d", "a b c", "a b d", "a c d", "b c d",
                 "a b c d"]
        self.assertEqual(rows[65:], [f"along {name} : 0" if name else "along : 0" for name in names])
        triples = [" ".join(triple) for triple in itertools.product("abcd", repeat=3)]
        self.assertEqual([row[:5] for row in rows[1:65]], triples)

    def test_whatever_order_the_keys_came_in(self):
        chance = random.Random(1)
        due = show_book(small_book())
        book = small_book()
        for turn in range(30):
            labels, maps = list(book.news.labels), list(book.maps)
            chance.shuffle(labels)
            chance.shuffle(maps)
            other = Book(
                News(("p", "q"), {triple: book.news.labels[triple] for triple in labels}),
                {some: book.maps[some] for some in maps},
            )
            self.assertEqual(show_book(other), due)

    def test_64_states(self):
        maps = {some: tuple(range(63, -1, -1)) for some in ((), ("x",))}
        book = Book(News(("x",), {("x", "x", "x"): ("a", 0)}), maps)
        figures = " ".join([str(state) for state in range(63, -1, -1)])
        self.assertEqual(show_book(book), f"desks x\nx x x a.0\nalong : {figures}\nalong x : {figures}")

    def test_it_counts_what_stands_in_it_when_asked(self):
        book = small_book()
        book.news.labels[("p", "q", "p")] = ("zz", 3)
        book.maps[("q",)] = (0, 1, 0)
        rows = with_row(with_row(SMALL, 4, "p q p zz.3"), 12, "along q : 0 1 0")
        self.assertEqual(show_book(book), text_of(rows))
        book.news.labels[("p", "q", "p")] = ("", 0)
        book.maps[("q",)] = (2, 2, 2)
        self.assertEqual(show_book(book), text_of(SMALL))

    def test_nothing_is_changed(self):
        book = small_book()
        kept = book_fields(book)
        for again in range(2):
            self.assertIs(show_book(book).__class__, str)
            self.assertEqual(show_book(book), text_of(SMALL))
        self.assertEqual(book_fields(book), kept)


class Read(TextCase):
    def test_a_text(self):
        self.assert_book(read_book(text_of(SMALL)), small_book())

    def test_one_desk_and_one_state(self):
        book = Book(News(("x",), {("x", "x", "x"): ("", 0)}), {(): (0,), ("x",): (0,)})
        self.assert_book(read_book(text_of(ONE)), book)

    def test_four_figures(self):
        for mark in (0, 1, 9, 10, 99, 100, 999, 1000, 9999):
            text = text_of(with_row(ONE, 2, f"x x x abcdefgh.{mark}"))
            self.assertEqual(read_book(text).news.labels, {("x", "x", "x"): ("abcdefgh", mark)})
            self.assertEqual(show_book(read_book(text)), text)

    def test_one_to_64_states(self):
        for many in range(1, 65):
            figures = " ".join([str(state) for state in range(many)])
            text = f"desks x\nx x x -\nalong : {figures}\nalong x : {figures}"
            self.assertEqual(read_book(text).maps, {(): tuple(range(many)), ("x",): tuple(range(many))})
            self.assertEqual(show_book(read_book(text)), text)

    def test_65_states(self):
        figures = " ".join([str(state) for state in range(65)])
        self.assert_no_text(f"desks x\nx x x -\nalong : {figures}\nalong x : {figures}", 3)

    def test_desks_and_letters_called_like_words_of_the_text(self):
        desks = ("along", "desks")
        for letters in itertools.product(("along", "desks", "x"), repeat=2):
            labels = dict(zip(itertools.product(desks, repeat=3), [(letters[0], 1), (letters[1], 0)] * 4))
            book = Book(News(desks, labels), {some: (0, 1) for some in sets_in(desks)})
            self.assert_book(read_book(show_book(book)), book)
        rows = show_book(book).split("\n")
        self.assertEqual(rows[0], "desks along desks")
        self.assertEqual(rows[9:], ["along : 0 1", "along along : 0 1", "along desks : 0 1", "along along desks : 0 1"])

    def test_books_of_runs(self):
        chance = random.Random(2)
        for rows in HOUSES:
            sharing = Sharing(list(rows))
            machine = least(some_quiet_machine(chance, rows))
            books = {desk: opened(sharing, machine) for desk in sharing.desks}
            for letter in some_row(chance, rows, 30):
                desks = sharing.meet(letter)
                label, book = met(sharing, machine, letter, {desk: books[desk] for desk in desks})
                for desk in desks:
                    books[desk] = book
                told = read_book(show_book(book))
                self.assert_book(told, book)
                self.assertEqual(show_book(told), show_book(book))
                # The books that were read go on as those that were written.
                some = {desk: read_book(show_book(books[desk])) for desk in desks}
                again = met(sharing, machine, letter, some)
                due = met(sharing, machine, letter, {desk: books[desk] for desk in desks})
                self.assertEqual((again[0], book_fields(again[1])), (due[0], book_fields(due[1])))

    def test_each_is_a_new_one(self):
        one, other = read_book(text_of(SMALL)), read_book(text_of(SMALL))
        one.news.labels.clear()
        one.maps.clear()
        self.assert_book(other, small_book())
        self.assert_book(read_book(text_of(SMALL)), small_book())

    def test_whether_any_run_has_it_is_not_looked_at(self):
        rows = with_row(with_row(SMALL, 2, "p p p strange.77"), 11, "along p : 2 1 0")
        told = read_book(text_of(rows))
        self.assertEqual(told.news.labels[("p", "p", "p")], ("strange", 77))
        self.assertEqual(told.maps[("p",)], (2, 1, 0))


class Refused(TextCase):
    def test_the_text_without_signs(self):
        self.assert_no_text("", 1)

    def test_the_first_row(self):
        for row in NO_DESKS:
            self.assert_no_text(row, 1)
            self.assert_no_text(text_of(with_row(SMALL, 1, row)), 1)
            self.assert_no_text(row + "\n", 1)

    def test_five_desks(self):
        desks = ("a", "b", "c", "d", "e")
        book = Book(
            News(desks, {triple: ("", 0) for triple in itertools.product(desks, repeat=3)}),
            {some: (0,) for some in sets_in(desks)},
        )
        self.assert_no_text(show_book(book), 1)

    def test_rows_of_labels(self):
        for row in NO_LABEL_ROWS:
            self.assert_no_text(text_of(with_row(SMALL, 5, row)), 5)
            self.assert_no_text(text_of(SMALL[:4] + [row]), 5)

    def test_rows_of_maps(self):
        for row in NO_MAP_ROWS:
            self.assert_no_text(text_of(with_row(SMALL, 12, row)), 12)
            self.assert_no_text(text_of(SMALL[:11] + [row]), 12)

    def test_the_first_map(self):
        for row in ("along :", "along : ", "along : 1", "along : 0 2", "along : 0 1 3", "along : 00", "along : 0 01",
                    "along", "along : 64", "along p : 0", "along : 0 -1", "along : " + "0 " * 64 + "0"):
            self.assert_no_text(text_of(with_row(SMALL, 10, row)), 10)

    def test_all_maps_have_as_many_states_as_the_first(self):
        # The first map decides, so the second one is not due where it has as many as before.
        self.assert_no_text(text_of(with_row(SMALL, 10, "along : 1 0")), 11)
        self.assert_no_text(text_of(with_row(SMALL, 10, "along : 1 0 2 3")), 11)
        self.assert_no_text(text_of(with_row(SMALL, 13, "along p q : 0 0")), 13)
        self.assert_no_text(text_of(with_row(SMALL, 13, "along p q : 0 0 0 0")), 13)
        self.assert_no_text(text_of(with_row(SMALL, 13, "along p q : 0 0 3")), 13)

    def test_each_row_left_out(self):
        for line in range(1, 14):
            self.assert_no_text(text_of(SMALL[:line - 1] + SMALL[line:]), line)

    def test_each_row_twice(self):
        for line in range(1, 14):
            self.assert_no_text(text_of(SMALL[:line] + SMALL[line - 1:]), line + 1)

    def test_two_rows_exchanged(self):
        for one, other in itertools.combinations(range(1, 14), 2):
            rows = with_row(with_row(SMALL, one, SMALL[other - 1]), other, SMALL[one - 1])
            self.assert_no_text(text_of(rows), one)

    def test_an_empty_row_at_each_place(self):
        for line in range(1, 15):
            self.assert_no_text(text_of(SMALL[:line - 1] + [""] + SMALL[line - 1:]), line)

    def test_a_row_behind_the_last_one(self):
        for row in ("", " ", "along p q : 0 0 0", "desks p q", "p p p a.0", "x", "along : 1 0 2"):
            self.assert_no_text(text_of(SMALL + [row]), 14)
            self.assert_no_text(text_of(SMALL + [row, row]), 14)
            self.assert_no_text(text_of(ONE + [row]), 5)

    def test_the_text_ends_ahead_of_a_row_due(self):
        for many in range(1, 13):
            self.assert_no_text(text_of(SMALL[:many]), many + 1)
            self.assert_no_text(text_of(SMALL[:many]) + "\n", many + 1)
        for many in range(1, 4):
            self.assert_no_text(text_of(ONE[:many]), many + 1)

    def test_a_blank_more(self):
        for line in range(1, 14):
            row = SMALL[line - 1]
            places = [at for at, sign in enumerate(row) if sign == " "]
            for at in [0, len(row)] + places:
                self.assert_no_text(text_of(with_row(SMALL, line, row[:at] + " " + row[at:])), line)

    def test_a_blank_fewer(self):
        for line in range(1, 14):
            row = SMALL[line - 1]
            for at in [at for at, sign in enumerate(row) if sign == " "]:
                if line > 1 or at == 5:
                    self.assert_no_text(text_of(with_row(SMALL, line, row[:at] + row[at + 1:])), line)

    def test_of_two_rows_the_first(self):
        for one, other in itertools.combinations(range(1, 14), 2):
            rows = with_row(with_row(SMALL, one, SMALL[one - 1] + " "), other, "strange")
            self.assert_no_text(text_of(rows), one)
            self.assert_no_text(text_of(with_row(SMALL, one, "strange")[:other - 1]), one)
            self.assert_no_text(text_of(with_row(SMALL, one, "strange") + [""]), one)

    def test_other_desks_than_the_first_row_tells(self):
        self.assert_no_text(text_of(with_row(SMALL, 1, "desks p")), 3)
        self.assert_no_text(text_of(with_row(SMALL, 1, "desks p r")), 3)
        self.assert_no_text(text_of(with_row(SMALL, 1, "desks p q r")), 4)
        self.assert_no_text(text_of(with_row(SMALL, 1, "desks a q")), 2)

    def test_every_sign_of_a_text_changed(self):
        """Whatever is read is written so: a text of which one sign is another is refused or tells another book."""
        text = text_of(SMALL)
        for at in range(len(text)):
            for sign in "a0 .\n:-p":
                other = text[:at] + sign + text[at + 1:]
                try:
                    told = read_book(other)
                except NoText as error:
                    self.assertLessEqual(error.line, other[:at].count("\n") + 2)
                else:
                    self.assertEqual(show_book(told), other)

    def test_it_changes_nothing(self):
        self.assert_no_text("desks", 1)
        self.assert_book(read_book(text_of(SMALL)), small_book())
        self.assertEqual(show_book(opened(Sharing(list(PAIR)), Machine(list("mba"), [[0, 0, 0]], []))).split("\n")[0],
                         "desks " + " ".join(desks_of(PAIR)))


if __name__ == "__main__":
    unittest.main()
