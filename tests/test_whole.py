"""The whole: point 3, line by line, over halls, books, tables and the front together."""

import itertools
import random
import unittest

from meetdesks.booktext import read_book, show_book
from meetdesks.books import met, poured
from meetdesks.errors import MeetError, Notices, TooMany
from meetdesks.forms import least_row, same
from meetdesks.front import Front
from meetdesks.hall import Hall
from meetdesks.history import known
from meetdesks.least import both, either, least, turned
from meetdesks.machine import Machine, lets_by, run
from meetdesks.machinetext import show_machine
from meetdesks.notice import notice
from meetdesks.sharetext import show_sharing
from meetdesks.sharing import Sharing
from meetdesks.tables import Tables, held, tables_let, tables_of
from meetdesks.tabletext import read_tables, show_tables
from meetdesks.together import together
from plain import (
    APART, HOUSES, LINE, PAIR, Past, book_fields, desks_of, exchanged, fields, known_letters, letters_of, past_of,
    plain_run, rows_up_to, sets_in, shuffled, some_quiet_machine, some_row, some_sharing,
)


def some_machine(chance, letters, most):
    many = chance.randint(1, most)
    table = [[chance.randrange(many) for letter in letters] for state in range(many)]
    return Machine(list(letters), table, [state for state in range(many) if chance.random() < 0.5])


def some_house(chance):
    """A sharing's rows and a machine: mostly one that takes no notice, else any."""
    if chance.random() < 0.6:
        rows = some_sharing(chance)
        return rows, some_quiet_machine(chance, rows)
    rows = list(chance.choice([LINE, PAIR, APART]))
    return rows, some_machine(chance, letters_of(rows), 5)


def seen_by_desks(rows, row):
    """For each desk the letters for which it meets: the same for rows that are one history alone (point 12)."""
    return tuple([tuple([letter for letter in row if desk in dict(rows)[letter]]) for desk in desks_of(rows)])


def hall_of(rows, machine, row):
    hall = Hall(Sharing(list(rows)), machine)
    for letter in row:
        hall.do(letter)
    return hall


class Notice(unittest.TestCase):
    """Either the machine takes no notice, or two rows are told."""

    def test_no_two_rows_or_two_that_are_told(self):
        chance = random.Random(1)
        quiet, loud = 0, 0
        for turn in range(150):
            rows, machine = some_house(chance)
            told = notice(Sharing(rows), machine)
            answers = {}
            for row in rows_up_to(letters_of(rows), 4):
                answers.setdefault(seen_by_desks(rows, row), set()).add(lets_by(machine, row))
            if told is None:
                self.assertEqual({len(answer) for answer in answers.values()}, {1})
                quiet += len(least(machine).table) > 1
                continue
            one, other = told
            self.assertTrue(same(Sharing(rows), one, other))
            self.assertNotEqual(lets_by(machine, one), lets_by(machine, other))
            self.assertIn(other, [exchanged(one, at) for at in range(len(one) - 1)])
            if len(one) <= 4:
                self.assertIn(2, {len(answer) for answer in answers.values()})
            with self.assertRaises(Notices) as taken:
                Hall(Sharing(rows), machine)
            self.assertEqual((taken.exception.one, taken.exception.other), told)
            loud += 1
        self.assertGreater(min(quiet, loud), 20)


class OneHistory(unittest.TestCase):
    """Rows that are one history leave each desk the very same book; groups' states are the least form's."""

    def test_all_short_rows(self):
        chance = random.Random(2)
        for turn in range(25):
            rows = some_sharing(chance, most_letters=3)
            machine = some_quiet_machine(chance, rows)
            books = {}
            for row in rows_up_to(letters_of(rows), 5):
                hall = hall_of(rows, machine, row)
                told = [book_fields(hall.book(desk)) for desk in desks_of(rows)]
                self.assertEqual(books.setdefault(seen_by_desks(rows, row), told), told)
                self.assertIs(hall.lets_by(), lets_by(machine, row))

    def test_long_rows(self):
        chance = random.Random(3)
        for turn in range(30):
            rows = some_sharing(chance, most_letters=6)
            machine, row = some_quiet_machine(chance, rows), some_row(chance, rows, 50)
            halls = [hall_of(rows, machine, other) for other in (
                row, shuffled(chance, rows, row, 300), least_row(Sharing(rows), row),
            )]
            for desk in desks_of(rows):
                texts = {show_book(hall.book(desk)) for hall in halls}
                self.assertEqual(len(texts), 1)

    def test_the_state_of_a_group(self):
        chance = random.Random(4)
        for turn in range(60):
            rows = some_sharing(chance, most_letters=6)
            machine, row = some_quiet_machine(chance, rows), some_row(chance, rows, 40)
            hall = hall_of(rows, machine, row)
            for group in sets_in(desks_of(rows))[1:]:
                letters = [row[number - 1] for number in known(Sharing(rows), row, list(group)) if number]
                told = hall.stands(list(group))
                self.assertEqual(told, run(least(machine), letters))
                for again in range(3):
                    self.assertEqual(told, plain_run(least(machine), shuffled(chance, rows, letters, 40)))
                self.assertEqual(told, poured({desk: hall.book(desk) for desk in group})[0])
            self.assertIs(hall.stands(desks_of(rows)) in hall.machine.good, lets_by(machine, row))

    def test_books_that_went_through_texts(self):
        # All that is needed stands in the books: they may be written, read elsewhere, and go on.
        chance = random.Random(5)
        for rows in HOUSES:
            machine = least(some_quiet_machine(chance, rows))
            sharing, hall = Sharing(list(rows)), Hall(Sharing(list(rows)), machine)
            texts = {desk: show_book(hall.book(desk)) for desk in sharing.desks}
            for letter in some_row(chance, rows, 30):
                some = {desk: read_book(texts[desk]) for desk in sharing.meet(letter)}
                label, book = met(sharing, machine, letter, some)
                self.assertEqual(label, hall.do(letter))
                for desk in some:
                    texts[desk] = show_book(book)
                self.assertEqual(texts, {desk: show_book(hall.book(desk)) for desk in sharing.desks})


class News(unittest.TestCase):
    """Whose news is newer, and labels, over runs of any length."""

    def test_newer_as_the_whole_history_tells_it(self):
        chance = random.Random(6)
        for turn in range(40):
            rows = some_sharing(chance, most_letters=6)
            hall, past = Hall(Sharing(rows), some_quiet_machine(chance, rows)), Past(rows)
            for letter in some_row(chance, rows, 40):
                hall.do(letter)
                past.do(letter)
            for three in itertools.product(past.desks, repeat=3):
                self.assertEqual(hall.newer(*three), past.newer(*three), (rows, past.row, three))

    def test_marks_and_sizes(self):
        chance = random.Random(7)
        for turn in range(30):
            rows = some_sharing(chance, most_letters=6)
            many = len(desks_of(rows))
            hall, past = Hall(Sharing(rows), some_quiet_machine(chance, rows)), Past(rows)
            for letter in some_row(chance, rows, 120):
                label = hall.do(letter)
                self.assertEqual(label, past.do(letter))
                self.assertLessEqual(label[1], many ** 3)
            spoken = {}
            for desk in past.desks:
                book, numbers = hall.book(desk), past.news(desk)
                self.assertEqual((len(book.news.labels), len(book.maps)), (many ** 3, 2 ** many))
                for (x, y, z), label in book.news.labels.items():
                    if y == z:
                        spoken.setdefault(label, set()).add(numbers[(x, y, z)])
            self.assertEqual({len(numbers) for numbers in spoken.values()}, {1})


class Sure(unittest.TestCase):
    """What a group is sure of holds whatever the others did, and it is open where it may be either way."""

    def test_whatever_the_others_did(self):
        # All rows, up to a length, of which the group's desks have the very same books.
        chance = random.Random(8)
        seen = set()
        for turn in range(40):
            rows = some_sharing(chance, most_letters=3, most_desks=3)
            machine = some_quiet_machine(chance, rows, sizes=(1, 1, 2), most=4)
            answers, told = {}, {}
            for row in rows_up_to(letters_of(rows), 5):
                hall, past = hall_of(rows, machine, row), past_of(rows, row)
                for group in sets_in(desks_of(rows))[1:]:
                    # What the group knows of, as each desk of the sharing sees it.
                    key = (group, seen_by_desks(rows, known_letters(past, group)))
                    answers.setdefault(key, set()).add(lets_by(machine, row))
                    self.assertEqual(told.setdefault(key, hall.sure(list(group))), hall.sure(list(group)))
            for key, answer in answers.items():
                if told[key] != "open":
                    self.assertEqual(answer, {told[key] == "yes"})
                seen.add((told[key], len(answer)))
        self.assertEqual(seen, {("yes", 1), ("no", 1), ("open", 1), ("open", 2)})


class TheTables(unittest.TestCase):
    """Tables are told to do as the machine does, or the first row is told on which they don't."""

    def test_those_that_this_program_writes_do(self):
        chance = random.Random(9)
        told = 0
        for turn in range(60):
            rows = some_sharing(chance, most_letters=3)
            sharing, machine = Sharing(rows), some_quiet_machine(chance, rows, sizes=(1, 1, 2), most=8)
            try:
                tables = tables_of(sharing, machine, 300)
            except TooMany:
                continue
            told += 1
            self.assertIsNone(held(tables, machine))
            self.assertIsNone(held(read_tables(sharing, show_tables(tables)), least(machine)))
            self.assertEqual(held(tables, turned(machine)), [])
            for again in range(5):
                row = some_row(chance, rows, 60)
                self.assertIs(tables_let(tables, row), lets_by(machine, row))
                self.assertIs(tables_let(tables, row), hall_of(rows, machine, row).lets_by())
        self.assertGreater(told, 30)

    def test_those_of_others(self):
        chance = random.Random(10)
        for turn in range(40):
            rows = some_sharing(chance, most_letters=3, most_desks=2)
            sharing, machine = Sharing(rows), some_quiet_machine(chance, rows, sizes=(1, 2), most=4)
            try:
                tables = tables_of(sharing, machine, 300)
            except TooMany:
                continue
            other = Tables(sharing, tables.moves, [places for places in tables.good if chance.random() < 0.8])
            row = held(other, machine)
            for earlier in rows_up_to(letters_of(rows), 4):
                if earlier == row:
                    break
                self.assertIs(tables_let(other, earlier), lets_by(machine, earlier))
            if row is None:
                self.assertEqual(other.good, tables.good)
            else:
                self.assertIsNot(tables_let(other, row), lets_by(machine, row))


class Machines(unittest.TestCase):
    """Halls of both, either, turned and of houses put together."""

    def test_both_either_and_turned(self):
        chance = random.Random(11)
        for turn in range(40):
            rows = some_sharing(chance)
            one = least(some_quiet_machine(chance, rows, sizes=(1, 2), most=8))
            other = least(some_quiet_machine(chance, rows, sizes=(1, 2), most=8))
            row = some_row(chance, rows, 40)
            mine, theirs = lets_by(one, row), lets_by(other, row)
            # Where no row's order counts for the one and the other, none counts for what comes of them.
            self.assertIs(hall_of(rows, both(one, other), row).lets_by(), mine and theirs)
            self.assertIs(hall_of(rows, either(one, other), row).lets_by(), mine or theirs)
            self.assertIs(hall_of(rows, turned(one), row).lets_by(), not mine)

    def test_sure_of_what_is_turned(self):
        chance = random.Random(12)
        otherwise = {"yes": "no", "no": "yes", "open": "open"}
        for turn in range(40):
            rows = some_sharing(chance)
            machine, row = some_quiet_machine(chance, rows), some_row(chance, rows, 20)
            hall, other = hall_of(rows, machine, row), hall_of(rows, turned(machine), row)
            for group in sets_in(desks_of(rows))[1:]:
                self.assertEqual(other.sure(list(group)), otherwise[hall.sure(list(group))])

    def test_houses_put_together(self):
        chance = random.Random(13)
        for turn in range(40):
            first, second = some_sharing(chance, most_letters=3), some_sharing(chance, most_letters=3)
            one = least(some_quiet_machine(chance, first, sizes=(1, 2), most=8))
            other = least(some_quiet_machine(chance, second, sizes=(1, 2), most=8))
            sharing, machine = together(Sharing(first), one, Sharing(second), other)
            self.assertIsNone(notice(sharing, machine))
            hall, row = Hall(sharing, machine), []
            for step in range(40):
                letter = chance.choice(sharing.letters)
                hall.do(letter)
                row.append(letter)
                mine = [letter for letter in row if letter in letters_of(first)]
                theirs = [letter for letter in row if letter in letters_of(second)]
                self.assertIs(hall.lets_by(), lets_by(one, mine) and lets_by(other, theirs))

    def test_64_states(self):
        # Two that count to eight, put together: a machine that this program told.
        count = [[(state + 1) % 8] for state in range(8)]
        sharing, machine = together(
            Sharing([("a", ("x",))]), Machine(["a"], count, [7]), Sharing([("b", ("y",))]), Machine(["b"], count, [7]),
        )
        hall = Hall(sharing, machine)
        self.assertEqual(len(hall.machine.table), 64)
        for letter in ["a"] * 15 + ["b"] * 7:
            self.assertIs(hall.lets_by(), False)
            hall.do(letter)
        self.assertIs(hall.lets_by(), True)
        text = show_book(hall.book("x"))
        self.assertEqual(show_book(read_book(text)), text)


class TheFront(unittest.TestCase):
    def test_the_front_tells_what_the_modules_tell(self):
        chance = random.Random(14)
        for turn in range(30):
            rows, machine = some_house(chance)
            sharing, front = Sharing(rows), Front()
            front.say("sharing s " + show_sharing(sharing).replace("\n", "/"))
            front.say("machine m " + show_machine(machine).replace("\n", "/"))
            front.say("turned t m")
            self.assertEqual(front.say("show t"), show_machine(turned(machine)).replace("\n", "/"))
            told = notice(sharing, machine)
            if told is not None:
                self.assertEqual(front.say("notice s m"), " ".join(told[0]) + " , " + " ".join(told[1]))
                with self.assertRaises(Notices):
                    front.say("hall h s m")
                continue
            front.say("hall h s m")
            front.say("hall g s t")
            row = some_row(chance, rows, 30)
            self.assertEqual(front.say("do h " + " ".join(row)), front.say("do g " + " ".join(row)))
            self.assertEqual(front.say("lets h"), "yes" if lets_by(machine, row) else "no")
            self.assertNotEqual(front.say("lets h"), front.say("lets g"))
            for desk in desks_of(rows):
                self.assertEqual(read_book(front.say(f"book h {desk}").replace("/", "\n")).news.labels,
                                 past_of(rows, row).label_news(desk))


class Nothing(unittest.TestCase):
    """Point 2 over the whole: nothing handed in is changed, and asked again each tells the same."""

    def test_nothing_handed_in_is_changed(self):
        chance = random.Random(15)
        for rows in (PAIR, LINE):
            sharing, machine = Sharing(list(rows)), some_quiet_machine(chance, rows, sizes=(1, 2))
            kept = fields(machine), show_sharing(sharing)
            row = some_row(chance, rows, 20)
            told = list(row)
            for again in range(2):
                hall = hall_of(rows, machine, row)
                hall.twin().do(row[0])
                hall.sure(desks_of(rows))
                try:
                    tables_of(sharing, machine, 40)
                except TooMany:
                    pass
                self.assertEqual((fields(machine), show_sharing(sharing)), kept)
                self.assertEqual(row, told)

    def test_every_refusal_is_a_meet_error(self):
        front = Front()
        for row in (None, "", "show k", "sharing N a x", "sharing s ", "machine m letters a a/good 0 0"):
            with self.assertRaises(MeetError):
                front.say(row)


if __name__ == "__main__":
    unittest.main()
