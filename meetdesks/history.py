"""What desks know of: the meetings of a row, and which of them are under which.

Meetings are numbered from 1, as the row's letters stand; 0 is the opening, at
which all desks meet.
"""

from meetdesks.words import refuse_desks, refuse_letters, rising


def history_of(sharing, row):
    """A list, for each meeting from 0 on: it and all under it, rising; and for each desk its last meeting."""
    downs = [(0,)]
    last = {desk: 0 for desk in sharing.desks}
    for number, letter in enumerate(row, start=1):
        desks = sharing.meet(letter)
        # A desk's last meeting has all its earlier ones under it, so no chain is missed.
        under = [lower for desk in desks for lower in downs[last[desk]]]
        downs.append(rising(under + [number]))
        for desk in desks:
            last[desk] = number
    return downs, last


def was_at(sharing, row, desk, number):
    """Whether the desk was at the meeting."""
    return number == 0 or desk in sharing.meet(row[number - 1])


def known(sharing, row, group):
    """The meetings of which one of the group knows, rising."""
    refuse_letters(sharing.letters, row)
    refuse_desks(sharing.desks, group)
    downs, last = history_of(sharing, row)
    return list(rising([number for desk in group for number in downs[last[desk]]]))


def news_at(sharing, row, desk):
    """The desk's news: for each triple of desks the number of a meeting."""
    refuse_letters(sharing.letters, row)
    refuse_desks(sharing.desks, [desk])
    downs, last = history_of(sharing, row)

    def latest(asked, number):
        return max([lower for lower in downs[number] if was_at(sharing, row, asked, lower)])

    news = {}
    for x in sharing.desks:
        first = latest(x, last[desk])
        for y in sharing.desks:
            second = latest(y, first)
            for z in sharing.desks:
                news[(x, y, z)] = latest(z, second)
    return news
