"""Tables as texts: a row for each move, then a row for each good tuple of places."""

from meetdesks.errors import NoText
from meetdesks.tables import Tables
from meetdesks.words import number_in, rising, words_of

MOST_FIGURES = 4


def show_tables(tables):
    """The tables' text."""
    rows = []
    for letter in tables.sharing.letters:
        for ahead in sorted([places for other, places in tables.moves if other == letter]):
            behind = tables.moves[(letter, ahead)]
            rows.append(" ".join([letter] + figures_of(ahead) + ["to"] + figures_of(behind)))
    for places in rising(tables.good):
        rows.append(" ".join(["good"] + figures_of(places)))
    return "\n".join(rows)


def figures_of(places):
    """The places, each by figures."""
    return [str(place) for place in places]


def read_tables(sharing, text):
    """The tables that the text tells, with this sharing."""
    rows = text.split("\n") if text else []
    moves = {}
    good = {}
    for line, row in enumerate(rows, start=1):
        words = words_of(row)
        move = move_in(sharing, words)
        places = good_in(sharing, words)
        if move is not None and move[0] not in moves:
            moves[move[0]] = move[1]
        elif places is not None and places not in good:
            good[places] = True
        else:
            raise NoText(line)
    return Tables(sharing, moves, list(good))


def move_in(sharing, words):
    """The move that a row's words tell, a letter with places and the places behind it, or None."""
    if words is None or words[0] not in sharing.letters:
        return None
    many = len(sharing.meet(words[0]))
    # The word to stands behind the letter and its desks' places.
    if len(words) != 2 * many + 2 or words[many + 1] != "to":
        return None
    ahead = places_in(words[1:many + 1])
    behind = places_in(words[many + 2:])
    if ahead is None or behind is None:
        return None
    return ((words[0], ahead), behind)


def good_in(sharing, words):
    """The places of all desks that a row's words tell to be good, or None."""
    if words is None or words[0] != "good" or len(words) != len(sharing.desks) + 1:
        return None
    return places_in(words[1:])


def places_in(words):
    """The places that words tell by figures, a tuple, or None."""
    places = [number_in(word, MOST_FIGURES) for word in words]
    if None in places:
        return None
    return tuple(places)
