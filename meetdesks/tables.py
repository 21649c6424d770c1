"""Tables for desks alone: places, the moves of letters among them, and which are good."""

from meetdesks.books import met, poured, sets_of
from meetdesks.errors import OtherLetters, TooMany
from meetdesks.hall import Hall
from meetdesks.least import first_row
from meetdesks.news import triples_of
from meetdesks.words import refuse_letters, rising


class Tables:
    """A sharing, the moves by letter and places of its desks, and the good places of all desks."""

    def __init__(self, sharing, moves, good):
        self.sharing = sharing
        self.moves = dict(moves)
        self.good = list(rising(good))


class Shelf:
    """The books of one desk, numbered as they come up: its places."""

    def __init__(self):
        self.books = []
        self.numbers = {}

    def place_of(self, book):
        """The book's number; the next one where it didn't come up yet."""
        told = all_told(book)
        if told not in self.numbers:
            self.numbers[told] = len(self.books)
            self.books.append(book)
        return self.numbers[told]


def all_told(book):
    """All that stands in the book, as one tuple: the same for books that are alike alone."""
    desks = book.news.desks
    labels = [book.news.labels[triple] for triple in triples_of(desks)]
    return (tuple(labels), tuple([book.maps[some] for some in sets_of(desks)]))


def first_places(sharing):
    """The places of all desks ahead of all letters."""
    return tuple([0 for desk in sharing.desks])


def places_for(sharing, letter, places):
    """Of the places of all desks those of the letter's desks."""
    desks = sharing.meet(letter)
    return tuple([place for desk, place in zip(sharing.desks, places) if desk in desks])


def moved(sharing, moves, letter, places):
    """The places of all desks behind the letter, or None where its move lacks."""
    move = (letter, places_for(sharing, letter, places))
    if move not in moves:
        return None
    after = dict(zip(sharing.meet(letter), moves[move]))
    return tuple([after.get(desk, place) for desk, place in zip(sharing.desks, places)])


def places_at(tables, row):
    """The places of all desks behind the row, or None where a move lacks."""
    refuse_letters(tables.sharing.letters, row)
    places = first_places(tables.sharing)
    for letter in row:
        places = moved(tables.sharing, tables.moves, letter, places)
        if places is None:
            return None
    return places


def tables_let(tables, row):
    """Whether the tables let the row by."""
    return places_at(tables, row) in tables.good


def held(tables, machine):
    """None where the tables do as the machine does, or the first row of which just one lets by."""
    if tables.sharing.letters != machine.letters:
        raise OtherLetters()
    good = {places: True for places in tables.good}

    def goes(thing, at):
        places, state = thing
        after = None
        if places is not None:
            after = moved(tables.sharing, tables.moves, machine.letters[at], places)
        return [(after, machine.table[state][at])]

    def otherwise(thing):
        places, state = thing
        return (places in good) != (state in machine.good)

    return first_row(machine.letters, (first_places(tables.sharing), 0), goes, otherwise)


def tables_of(sharing, machine, most):
    """The tables of the hall's books, where at most so many rows of places come up."""
    hall = Hall(sharing, machine)
    shelves = {desk: Shelf() for desk in sharing.desks}
    for desk in sharing.desks:
        shelves[desk].place_of(hall.book(desk))
    moves = {}
    rows = [first_places(sharing)]
    seen = {rows[0]: True}
    now = 0
    while now < len(rows):
        for letter in sharing.letters:
            write_move(hall, shelves, moves, letter, rows[now])
            after = moved(sharing, moves, letter, rows[now])
            if after not in seen:
                seen[after] = True
                rows.append(after)
            if len(rows) > most:
                raise TooMany(most)
        now += 1
    good = [places for places in rows if poured(books_at(shelves, sharing.desks, places))[0] in hall.machine.good]
    return Tables(sharing, moves, good)


def books_at(shelves, desks, places):
    """For each of these desks the book at its place."""
    return {desk: shelves[desk].books[place] for desk, place in zip(desks, places)}


def write_move(hall, shelves, moves, letter, places):
    """Write the letter's move at these places of all desks, where it isn't written yet."""
    ahead = places_for(hall.sharing, letter, places)
    if (letter, ahead) in moves:
        return
    desks = hall.sharing.meet(letter)
    label, book = met(hall.sharing, hall.machine, letter, books_at(shelves, desks, ahead))
    moves[(letter, ahead)] = tuple([shelves[desk].place_of(book) for desk in desks])
