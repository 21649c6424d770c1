"""Halls: a sharing, a machine that takes no notice, and a book for each desk."""

from meetdesks.books import Book, met, newer_book, opened, poured
from meetdesks.errors import Notices
from meetdesks.least import least
from meetdesks.notice import notice
from meetdesks.words import refuse_desks


class Hall:
    """The desks of a sharing with their books, behind the letters done so far."""

    def __init__(self, sharing, machine):
        rows = notice(sharing, machine)
        if rows is not None:
            raise Notices(rows[0], rows[1])
        self.sharing = sharing
        self.machine = least(machine)
        # No book that is kept is ever changed, so desks and twins may have one and the same.
        self.books = {desk: opened(sharing, self.machine) for desk in sharing.desks}

    def do(self, letter):
        """Do the letter, by the books of its desks alone; its label is told."""
        desks = self.sharing.meet(letter)
        label, book = met(self.sharing, self.machine, letter, self.books_of(desks))
        for desk in desks:
            self.books[desk] = book
        return label

    def books_of(self, desks):
        """For each of these desks its book."""
        refuse_desks(self.sharing.desks, desks)
        return {desk: self.books[desk] for desk in desks}

    def book(self, desk):
        """The desk's book, a copy."""
        kept = self.books_of([desk])[desk]
        return Book(kept.news, kept.maps)

    def stands(self, group):
        """The state behind all that the group knows of."""
        return poured(self.books_of(group))[0]

    def lets_by(self):
        """Whether the row of all letters done is let by."""
        return self.stands(self.sharing.desks) in self.machine.good

    def sure(self, group):
        """Whether the row is let by whatever the others did: yes, no or open."""
        start = self.stands(group)
        good = [state in self.machine.good for state in reached(self.machine, start, others(self.sharing, group))]
        if all(good):
            return "yes"
        return "open" if any(good) else "no"

    def newer(self, one, other, desk):
        """Whose news of the desk is newer: 1 the one's, -1 the other's, 0 where they are the same meeting."""
        refuse_desks(self.sharing.desks, [one, other, desk])
        return newer_book(self.books[one], self.books[other], desk)

    def twin(self):
        """A hall that stands as this one does, and goes its own way."""
        other = Hall(self.sharing, self.machine)
        other.books = dict(self.books)
        return other


def others(sharing, group):
    """The places of the letters for which none of the group meets."""
    places = []
    for at, letter in enumerate(sharing.letters):
        if not any([desk in group for desk in sharing.meet(letter)]):
            places.append(at)
    return places


def reached(machine, start, places):
    """The states to which rows of the letters at these places lead from the start, this one too."""
    states = [start]
    now = 0
    while now < len(states):
        for at in places:
            after = machine.table[states[now]][at]
            if after not in states:
                states.append(after)
        now += 1
    return states
