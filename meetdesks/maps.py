"""Maps of machines: for each state, in order, the state to which it is led."""

from meetdesks.words import refuse_letters


def staying(many):
    """The map of so many states that leads each to itself."""
    return tuple(range(many))


def and_then(one, other):
    """The map that leads each state by the one and then by the other."""
    return tuple([other[state] for state in one])


def map_of(machine, row):
    """The map that leads each state to where the row leads it."""
    refuse_letters(machine.letters, row)
    told = staying(len(machine.table))
    for letter in row:
        at = machine.letters.index(letter)
        told = and_then(told, [steps[at] for steps in machine.table])
    return told


def along(machine, row, numbers):
    """The map of the letters of these meetings of the row, the others left out."""
    # A strange letter is refused also where it is not among them.
    refuse_letters(machine.letters, row)
    return map_of(machine, [row[number - 1] for number in numbers if number > 0])
