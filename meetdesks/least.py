"""Least forms of machines, and what parts their states."""

from meetdesks.errors import OtherLetters
from meetdesks.machine import Machine


def first_row(letters, start, goes, found):
    """The first row, by length and order, that leads from start to a thing that is found, or None.

    goes(thing, at) tells a list: the things to which the letter at that place leads.
    """
    seen = {start: True}
    # Things that come up by one row are gone on from together: else a later one's
    # first letter would stand behind an earlier one's last, out of the rows' order.
    groups = [[start]]
    came = [None]
    now = 0
    while now < len(groups):
        if any([found(thing) for thing in groups[now]]):
            return row_to(came, now)
        for at, letter in enumerate(letters):
            fresh = fresh_of([after for thing in groups[now] for after in goes(thing, at)], seen)
            if fresh:
                groups.append(fresh)
                came.append((now, letter))
        now += 1
    return None


def fresh_of(things, seen):
    """Those of the things that weren't seen yet, each once; seen is told of them."""
    fresh = []
    for thing in things:
        if thing not in seen:
            seen[thing] = True
            fresh.append(thing)
    return fresh


def row_to(came, group):
    """The row by which a group came up; came tells for each the one ahead and the letter."""
    row = []
    while came[group] is not None:
        group, letter = came[group]
        row.append(letter)
    return row[::-1]


def parted_from(machine, one, other):
    """The first row, by length and order, that parts the two states, or None."""
    def goes(pair, at):
        return [(machine.table[pair[0]][at], machine.table[pair[1]][at])]

    def parts(pair):
        return (pair[0] in machine.good) != (pair[1] in machine.good)

    return first_row(machine.letters, (one, other), goes, parts)


def machine_of(letters, start, goes, is_good):
    """The machine whose states are the things to which rows lead from start, numbered as they come up."""
    numbers = {start: 0}
    things = [start]
    table = []
    while len(table) < len(things):
        steps = []
        for at in range(len(letters)):
            after = goes(things[len(table)], at)
            if after not in numbers:
                numbers[after] = len(things)
                things.append(after)
            steps.append(numbers[after])
        table.append(steps)
    return Machine(list(letters), table, [numbers[thing] for thing in things if is_good(thing)])


def numbered(things):
    """For each thing its number, the same for alike ones, as they come up from 0 on."""
    numbers = {}
    for thing in things:
        if thing not in numbers:
            numbers[thing] = len(numbers)
    return [numbers[thing] for thing in things]


def classes_of(machine):
    """For each state the number of its class: two are in one where no row parts them."""
    classes = numbered([state in machine.good for state in range(len(machine.table))])
    finer = finer_classes(machine, classes)
    while max(finer) > max(classes):
        classes = finer
        finer = finer_classes(machine, classes)
    return classes


def finer_classes(machine, classes):
    """The classes parted further, where one letter leads from one class to several."""
    steps = [tuple([classes[after] for after in row]) for row in machine.table]
    return numbered(list(zip(classes, steps)))


def least(machine):
    """The machine's least form."""
    classes = classes_of(machine)
    # Each class is told by the first of its states.
    firsts = [classes.index(number) for number in classes]

    def goes(state, at):
        return firsts[machine.table[state][at]]

    def is_good(state):
        return state in machine.good

    return machine_of(machine.letters, firsts[0], goes, is_good)


def side_by_side(one, other, is_good):
    """The least form of both machines run at once, good as told of each one's good or not."""
    if one.letters != other.letters:
        raise OtherLetters()

    def goes(pair, at):
        return (one.table[pair[0]][at], other.table[pair[1]][at])

    def pair_is_good(pair):
        return is_good(pair[0] in one.good, pair[1] in other.good)

    return least(machine_of(one.letters, (0, 0), goes, pair_is_good))


def both(one, other):
    """The least form of the machine that lets by what both let by."""
    return side_by_side(one, other, lambda first, second: first and second)


def either(one, other):
    """The least form of the machine that lets by what one of them or both let by."""
    return side_by_side(one, other, lambda first, second: first or second)


def turned(machine):
    """The least form of the machine that lets by what this one does not."""
    bad = [state for state in range(len(machine.table)) if state not in machine.good]
    return least(Machine(list(machine.letters), list(machine.table), bad))
