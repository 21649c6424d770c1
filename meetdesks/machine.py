"""Machines: which rows of letters are let by."""

from meetdesks.errors import BadGood, BadStep
from meetdesks.words import refuse_letters, refuse_twice, rising


class Machine:
    """Letters, a table that tells where each leads from each state, and the good states."""

    def __init__(self, letters, table, good):
        refuse_twice(letters)
        refuse_steps(letters, table)
        refuse_good(table, good)
        self.letters = tuple(letters)
        self.table = tuple([tuple(row) for row in table])
        self.good = rising(good)


def refuse_steps(letters, table):
    """Refuse the first place of the table, state by state, at which no state stands."""
    for state, row in enumerate(table):
        for at, letter in enumerate(letters):
            # Where a row ends ahead of the letter's place, no state stands there either.
            if at >= len(row) or not 0 <= row[at] < len(table):
                raise BadStep(state, letter)


def refuse_good(table, good):
    """Refuse the first number of good, as told, that is no state of the table."""
    for state in good:
        if not 0 <= state < len(table):
            raise BadGood(state)


def run(machine, row):
    """The state in which the row leaves the machine, from state 0 on."""
    refuse_letters(machine.letters, row)
    state = 0
    for letter in row:
        state = machine.table[state][machine.letters.index(letter)]
    return state


def lets_by(machine, row):
    """Whether the machine comes to a good state behind the row."""
    return run(machine, row) in machine.good
