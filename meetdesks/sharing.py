"""Sharings: which desks meet for which letter."""

from meetdesks.errors import NoLetter, Twice
from meetdesks.words import refuse_twice, rising


class Sharing:
    """Letters, in the order told, and for each the desks that meet for it."""

    def __init__(self, rows):
        refuse_rows(rows)
        self.letters = tuple([letter for letter, desks in rows])
        self.desks = rising([desk for letter, desks in rows for desk in desks])
        self.desks_at = {letter: rising(desks) for letter, desks in rows}

    def meet(self, letter):
        """The desks that meet for the letter, rising."""
        if letter not in self.desks_at:
            raise NoLetter(letter)
        return self.desks_at[letter]


def refuse_rows(rows):
    """Refuse what stands twice, row by row, the letter ahead of its desks."""
    seen = set()
    for letter, desks in rows:
        if letter in seen:
            raise Twice(letter)
        seen.add(letter)
        refuse_twice(desks)


def apart(sharing, one, other):
    """Whether the two letters have no desk in common."""
    # Both are asked ahead of the answer, in this order: the first strange letter is the one due.
    first = sharing.meet(one)
    second = sharing.meet(other)
    return not any([desk in second for desk in first])
