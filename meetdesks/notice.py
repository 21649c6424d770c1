"""Whether a machine takes notice of the order of letters that are done apart."""

from meetdesks.errors import OtherLetters
from meetdesks.least import first_row, least
from meetdesks.machine import lets_by
from meetdesks.sharing import apart

# Where a row stands that is gone through together with one that comes of it by an exchange.
AHEAD = 0
WITHIN = 1
BEHIND = 2


def free_pairs(machine):
    """The pairs of letters whose order leads to no other state, at each state of the least form."""
    small = least(machine)
    pairs = []
    for at, letter in enumerate(small.letters):
        for later in range(at + 1, len(small.letters)):
            if are_free(small, at, later):
                pairs.append((letter, small.letters[later]))
    return pairs


def are_free(machine, one, other):
    """Whether, at each state, both orders of the letters at these places lead to one state."""
    table = machine.table
    return all([table[steps[one]][other] == table[steps[other]][one] for steps in table])


def notice(sharing, machine):
    """None, or the first row that an exchange of letters apart makes another for the machine, and that row."""
    if sharing.letters != machine.letters:
        raise OtherLetters()
    row = first_noticed(sharing, least(machine))
    if row is None:
        return None
    return (row, first_otherwise(sharing, machine, row))


def first_noticed(sharing, machine):
    """The first row, by length and order, that by one exchange becomes one of which the machine does otherwise."""
    def goes(thing, at):
        return gone_on(sharing, machine, thing, at)

    def otherwise(thing):
        where, state, more = thing
        return where == BEHIND and (state in machine.good) != (more in machine.good)

    return first_row(machine.letters, (AHEAD, 0, 0), goes, otherwise)


def gone_on(sharing, machine, thing, at):
    """What a row and the one exchanged come to by the letter at a place.

    Ahead of the exchange both stand in one state; within it the first of the two
    letters was read; behind it each row stands in a state of its own.
    """
    where, state, more = thing
    table = machine.table
    if where == AHEAD:
        return [(AHEAD, table[state][at], 0), (WITHIN, state, at)]
    if where == BEHIND:
        return [(BEHIND, table[state][at], table[more][at])]
    if not apart(sharing, machine.letters[more], machine.letters[at]):
        return []
    return [(BEHIND, table[table[state][more]][at], table[table[state][at]][more])]


def first_otherwise(sharing, machine, row):
    """The row that comes of it by its first exchange, from the left, of which the machine does otherwise."""
    for at in range(len(row) - 1):
        other = row[:at] + [row[at + 1], row[at]] + row[at + 2:]
        if apart(sharing, row[at], row[at + 1]) and lets_by(machine, other) != lets_by(machine, row):
            return other
    return None
