"""Books: a desk's news, and for each set of desks a map of the machine.

The map of a set is the one along all meetings that the desk knows of, but those
that are, or are under, the meeting at the first hand of one of the set.
"""

from meetdesks.maps import and_then, map_of, staying
from meetdesks.news import News, first_hand, met_news, newer, opened_news


class Book:
    """News, and for each rising tuple of the desks a map."""

    def __init__(self, news, maps):
        self.news = News(news.desks, news.labels)
        self.maps = dict(maps)


def sets_of(desks):
    """All sets of the desks, as rising tuples: those with fewer desks first, else sorted."""
    sets = [()]
    for desk in desks:
        sets = sets + [some + (desk,) for some in sets]
    return sorted(sets, key=lambda some: (len(some), some))


def opened(sharing, machine):
    """The book of each desk behind the opening."""
    stay = staying(len(machine.table))
    return Book(opened_news(sharing), {some: stay for some in sets_of(sharing.desks)})


def newer_book(one, other, desk):
    """Whose book has the newer news of the desk: 1 the one, -1 the other, 0 where they are the same meeting."""
    return newer(one.news, other.news, desk)


def first_hands(news):
    """The first hand labels of all desks, in their order."""
    return [first_hand(news, desk) for desk in news.desks]


def joined(books, labels):
    """The map along all that the books' desks know of, but what is left out by labels.

    Left out are the meetings that are, or are under, a first hand meeting of a
    book that bears one of the labels.
    """
    told = staying(len(books[0].maps[()]))
    out = list(labels)
    for book in books:
        firsts = first_hands(book.news)
        gone = tuple([desk for desk, label in zip(book.news.desks, firsts) if label in out])
        told = and_then(told, book.maps[gone])
        # What a later desk knows, and this one, too, lies under their common first hand meetings.
        out.extend(firsts)
    return told


def poured(some):
    """The map along all meetings of which one of the desks knows."""
    return joined([some[desk] for desk in sorted(some)], [])


def met(sharing, machine, letter, some):
    """The label of a meeting for the letter, and the book that each of its desks has behind it."""
    desks = sharing.meet(letter)
    label, news = met_news(sharing, letter, {desk: some[desk].news for desk in desks})
    books = [some[desk] for desk in desks]
    own = map_of(machine, [letter])
    stay = staying(len(machine.table))
    maps = {}
    for left in sets_of(sharing.desks):
        if any([desk in desks for desk in left]):
            # All that is known lies under this meeting.
            maps[left] = stay
        else:
            # What lies under the newest meeting of a desk y is found by its labels of (y, z, z).
            under = [news.labels[(y, z, z)] for y in left for z in sharing.desks]
            maps[left] = and_then(joined(books, under), own)
    return (label, Book(news, maps))
