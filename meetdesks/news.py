"""News: what a desk knows of all desks' last meetings, by labels.

A label is a letter and a mark. The label of (x, y, z) is that of a meeting: of
the last meeting of x that the desk knows of, the latest of y under it, and of
this one the latest of z under it.
"""

OPENING = ("", 0)


class News:
    """The desks, rising, and for each triple of them a label."""

    def __init__(self, desks, labels):
        self.desks = tuple(desks)
        self.labels = dict(labels)


def triples_of(desks):
    """All triples of the desks; sorted, where the desks are."""
    return [(x, y, z) for x in desks for y in desks for z in desks]


def opened_news(sharing):
    """The news of each desk behind the opening."""
    return News(sharing.desks, {triple: OPENING for triple in triples_of(sharing.desks)})


def first_hand(news, desk):
    """The first hand label of the desk in the news."""
    return news.labels[(desk, desk, desk)]


def knows(news, label):
    """Whether the label stands in the news at the first or second hand."""
    return any([y == z and there == label for (x, y, z), there in news.labels.items()])


def newer(one, other, desk):
    """Whose news of the desk is newer: 1 the one's, -1 the other's, 0 where they are the same meeting."""
    mine = first_hand(one, desk)
    if mine == first_hand(other, desk):
        return 0
    # Of two unlike ones just the elder is known to the other's desk.
    return -1 if knows(other, mine) else 1


def newest(desks, some, asked):
    """Of the news of these desks one that has the newest meeting of the desk asked for."""
    best = some[desks[0]]
    for desk in desks[1:]:
        if newer(some[desk], best, asked) == 1:
            best = some[desk]
    return best


def mark_for(letter, news):
    """The least mark that no label of this letter has in the news, at whatever hand."""
    taken = [mark for other, mark in news.labels.values() if other == letter]
    mark = 0
    while mark in taken:
        mark += 1
    return mark


def met_news(sharing, letter, some):
    """The label of a meeting for the letter, and the news that each of its desks has behind it."""
    desks = sharing.meet(letter)
    label = (letter, mark_for(letter, some[desks[0]]))
    best = {x: newest(desks, some, x) for x in sharing.desks if x not in desks}
    firsts = {x: label if x in desks else first_hand(best[x], x) for x in sharing.desks}
    labels = {}
    for x, y, z in triples_of(sharing.desks):
        if x not in desks:
            labels[(x, y, z)] = best[x].labels[(x, y, z)]
        elif y in desks:
            # The last meeting of both is this one.
            labels[(x, y, z)] = firsts[z]
        else:
            labels[(x, y, z)] = best[y].labels[(y, z, z)]
    return (label, News(sharing.desks, labels))
