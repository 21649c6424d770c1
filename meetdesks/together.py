"""Two houses, each a sharing and a machine with its letters, put together to one."""

from meetdesks.least import both
from meetdesks.machine import Machine
from meetdesks.sharing import Sharing
from meetdesks.words import rising


def together(sharing, machine, other, another):
    """The sharing and the machine of the house that two houses give."""
    letters = list(sharing.letters) + [letter for letter in other.letters if letter not in sharing.letters]
    rows = [(letter, rising(desks_for(sharing, letter) + desks_for(other, letter))) for letter in letters]
    return (Sharing(rows), both(widened(machine, letters), widened(another, letters)))


def desks_for(sharing, letter):
    """The desks that meet for the letter; none where the sharing hasn't it."""
    if letter not in sharing.letters:
        return ()
    return sharing.meet(letter)


def widened(machine, letters):
    """The machine with these letters: those that it hasn't leave it where it stands."""
    table = []
    for state, steps in enumerate(machine.table):
        own = dict(zip(machine.letters, steps))
        table.append([own.get(letter, state) for letter in letters])
    return Machine(letters, table, list(machine.good))
