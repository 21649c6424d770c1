"""Plain reckonings over whole histories, which the tests hold the program against.

Nothing here is reckoned as the program does it: meetings are numbers, what is
under them are sets, labels are given by what the whole history tells (points 12,
13, 20, 21).
"""

import itertools
import unittest

from meetdesks.errors import MeetError
from meetdesks.least import least
from meetdesks.machine import Machine

# One to four desks; letters of one desk, of two, of three, of all.
ALONE = [("b", ("x",)), ("a", ("x",))]
PAIR = [("m", ("y", "x")), ("b", ("y",)), ("a", ("x",))]
APART = [("c", ("x",)), ("a", ("y",)), ("b", ("z",))]
LINE = [("z", ("p", "q")), ("m", ("q", "r")), ("a", ("r", "s")), ("b", ("p",)), ("y", ("s",))]
RING = [("ab", ("a", "b")), ("bc", ("b", "c")), ("ca", ("c", "a"))]
FULL = [("f", ("w",)), ("b", ("z", "x")), ("d", ("y",)), ("a", ("z", "y", "x", "w")), ("e", ("x",)), ("c", ("w", "y"))]
STAR = [("e", ("q", "r", "s")), ("d", ("p", "s")), ("c", ("p", "r")), ("b", ("p", "q")), ("a", ("p",))]
SQUARE = [("a", ("p", "q")), ("b", ("q", "r")), ("c", ("r", "s")), ("d", ("s", "p"))]
HOUSES = (ALONE, PAIR, APART, LINE, RING, FULL, STAR, SQUARE)


class RefusalCase(unittest.TestCase):
    def assert_refused(self, kind, told, asked, *handed):
        """Refused with this very class and these fields, and again when it is asked again."""
        for again in range(2):
            with self.assertRaises(MeetError, msg=repr(handed)) as taken:
                asked(*handed)
            self.assertIs(taken.exception.__class__, kind, repr(handed))
            for name, value in told.items():
                self.assertEqual(getattr(taken.exception, name), value, repr(handed))


def desks_of(rows):
    return sorted({desk for letter, desks in rows for desk in desks})


def letters_of(rows):
    return [letter for letter, desks in rows]


def sets_in(desks):
    """All rising tuples of the desks."""
    return [some for many in range(len(desks) + 1) for some in itertools.combinations(sorted(desks), many)]


def rows_up_to(letters, most):
    """All rows of at most so many letters, by length and order."""
    for many in range(most + 1):
        for row in itertools.product(letters, repeat=many):
            yield list(row)


def some_row(chance, rows, many):
    return [chance.choice(letters_of(rows)) for place in range(many)]


def some_sharing(chance, most_letters=4, most_desks=4):
    """Rows of a sharing: letters out of order, each of one desk or several."""
    desks = ["p", "q", "r", "s"][:chance.randint(1, most_desks)]
    letters = chance.sample(["a", "b", "c", "d", "e", "f"], chance.randint(1, most_letters))
    rows = []
    for letter in letters:
        some = chance.sample(desks, min(len(desks), chance.choice([1, 1, 2, 2, 3, 4])))
        rows.append((letter, tuple(some)))
    return rows


class Past:
    """All meetings of a run, told one letter at a time."""

    def __init__(self, rows):
        self.rows = dict(rows)
        self.desks = desks_of(rows)
        self.row = []
        # For each meeting: it and those under it; its desks; its label.
        self.downs = [{0}]
        self.at = [set(self.desks)]
        self.labels = [("", 0)]
        self.latest = [{desk: 0 for desk in self.desks}]

    def last(self, desk):
        return max([number for number, desks in enumerate(self.at) if desk in desks])

    def known(self, group):
        """What the group knows of, a set of numbers."""
        return set().union(*[self.downs[self.last(desk)] for desk in group])

    def first_meeting(self, desk, asked):
        """The last meeting of the one asked for of which the desk knows."""
        return self.latest[self.last(desk)][asked]

    def news(self, desk):
        """For each triple the number of a meeting."""
        told = {}
        for x, y, z in itertools.product(self.desks, repeat=3):
            first = self.first_meeting(desk, x)
            told[(x, y, z)] = self.latest[self.latest[first][y]][z]
        return told

    def label_news(self, desk):
        return {triple: self.labels[number] for triple, number in self.news(desk).items()}

    def do(self, letter):
        """Done is one letter; its label is told."""
        desks = set(self.rows[letter])
        news = self.label_news(min(desks))
        taken = {mark for other, mark in news.values() if other == letter}
        label = (letter, min([mark for mark in range(len(news) + 1) if mark not in taken]))
        number = len(self.at)
        below = set().union(*[self.downs[other] for other in range(number) if self.at[other] & desks])
        self.row.append(letter)
        self.downs.append(below | {number})
        self.at.append(desks)
        self.labels.append(label)
        self.latest.append({
            desk: max([other for other in self.downs[number] if desk in self.at[other]]) for desk in self.desks
        })
        return label

    def newer(self, one, other, desk):
        mine, theirs = self.first_meeting(one, desk), self.first_meeting(other, desk)
        return (mine > theirs) - (mine < theirs)

    def left_of(self, desk, some):
        """The numbers along which a desk's map of a set leads."""
        out = set().union(*[self.downs[self.first_meeting(desk, other)] for other in some])
        return sorted(self.known([desk]) - out)


def past_of(rows, row):
    past = Past(rows)
    for letter in row:
        past.do(letter)
    return past


def known_letters(past, group):
    """The letters of which the group knows, as they stand in the row."""
    return [past.row[number - 1] for number in sorted(past.known(group)) if number]


def plain_run(machine, row):
    state = 0
    for letter in row:
        state = machine.table[state][machine.letters.index(letter)]
    return state


def some_quiet_machine(chance, rows, sizes=(1, 2, 2, 3), most=24):
    """A machine that takes no notice: each desk has places, each letter moves its own desks' places.

    Several are drawn, so that one whose least form has one state alone is rare.
    """
    drawn = [drawn_quiet_machine(chance, rows, sizes, most) for turn in range(3)]
    return max(drawn, key=lambda machine: len(least(machine).table))


def drawn_quiet_machine(chance, rows, sizes, most):
    desks = desks_of(rows)
    assert min(sizes) ** len(desks) <= most, "no choice of places has so few states"
    while True:
        places = {desk: chance.choice(sizes) for desk in desks}
        states = list(itertools.product(*[range(places[desk]) for desk in desks]))
        if len(states) <= most:
            break
    moves = {}
    for letter, names in rows:
        mine = sorted(names)
        for ahead in itertools.product(*[range(places[desk]) for desk in mine]):
            moves[(letter, ahead)] = {desk: chance.randrange(places[desk]) for desk in mine}
    table = []
    for state in states:
        now = dict(zip(desks, state))
        steps = []
        for letter, names in rows:
            after = dict(now)
            after.update(moves[(letter, tuple([now[desk] for desk in sorted(names)]))])
            steps.append(states.index(tuple([after[desk] for desk in desks])))
        table.append(steps)
    good = [state for state in range(len(states)) if chance.random() < 0.5]
    return Machine(letters_of(rows), table, good)


def exchanged(row, at):
    return row[:at] + [row[at + 1], row[at]] + row[at + 2:]


def shuffled(chance, rows, row, many):
    """A row that is one history with it, by exchanges of neighbours that are apart, at places drawn."""
    desks = {letter: set(names) for letter, names in rows}
    row = list(row)
    for turn in range(many if len(row) > 1 else 0):
        at = chance.randrange(len(row) - 1)
        if not desks[row[at]] & desks[row[at + 1]]:
            row = exchanged(row, at)
    return row


def fields(machine):
    return machine.letters, machine.table, machine.good


def book_fields(book):
    """All that stands in a book, copied."""
    return book.news.desks, dict(book.news.labels), dict(book.maps)
