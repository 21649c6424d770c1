"""Rows that are one history: their layers, their least row, the way between two."""

from meetdesks.words import refuse_letters


def layers(sharing, row):
    """The row's layers, each its letters in the order of the sharing."""
    refuse_letters(sharing.letters, row)
    told = []
    # For each desk how many layers there are up to its last meeting.
    behind = {desk: 0 for desk in sharing.desks}
    for letter in row:
        desks = sharing.meet(letter)
        layer = max([behind[desk] for desk in desks])
        if layer == len(told):
            told.append([])
        told[layer].append(letter)
        for desk in desks:
            behind[desk] = layer + 1
    return [in_order(sharing, letters) for letters in told]


def in_order(sharing, letters):
    """These letters, each once, in the order of the sharing."""
    return [letter for letter in sharing.letters if letter in letters]


def least_row(sharing, row):
    """The first, by order, of all rows that are one history with it."""
    refuse_letters(sharing.letters, row)
    left = list(row)
    told = []
    while left:
        first = in_order(sharing, ready_in(sharing, left))[0]
        told.append(first)
        left.remove(first)
    return told


def ready_in(sharing, row):
    """The letters of the row that can come to its begin: none ahead of them has a desk in common with them."""
    ready = []
    busy = {desk: False for desk in sharing.desks}
    for letter in row:
        desks = sharing.meet(letter)
        if not any([busy[desk] for desk in desks]):
            ready.append(letter)
        for desk in desks:
            busy[desk] = True
    return ready


def same(sharing, one, other):
    """Whether the two rows are one history."""
    refuse_letters(sharing.letters, one)
    refuse_letters(sharing.letters, other)
    return all([seen_by(sharing, one, desk) == seen_by(sharing, other, desk) for desk in sharing.desks])


def seen_by(sharing, row, desk):
    """The letters of the row for which the desk meets."""
    return [letter for letter in row if desk in sharing.meet(letter)]


def way(sharing, one, other):
    """The places at which neighbours are exchanged, to come from the one row to the other, or None."""
    if not same(sharing, one, other):
        return None
    places = []
    left = list(one)
    for at, letter in enumerate(other):
        # What stands ahead of it comes behind it in the other row: each such pair is turned, once.
        ahead = left.index(letter)
        places.extend([at + step for step in range(ahead - 1, -1, -1)])
        left.remove(letter)
    return places
