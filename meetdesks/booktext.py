"""Books as texts: a row of desks, a row for each label, a row for each map."""

from meetdesks.books import Book, sets_of
from meetdesks.errors import NoText
from meetdesks.news import OPENING, News, triples_of
from meetdesks.words import is_name, number_in, rising, words_of

MOST_DESKS = 4
MOST_STATES = 64
MARK_FIGURES = 4
STATE_FIGURES = 3


def show_label(label):
    """The label as a word."""
    letter, mark = label
    return "-" if label == OPENING else f"{letter}.{mark}"


def head_of(some):
    """The words ahead of the states in the row of a set of desks."""
    return ["along"] + list(some) + [":"]


def show_book(book):
    """The book's text."""
    desks = book.news.desks
    rows = [" ".join(["desks"] + list(desks))]
    for triple in triples_of(desks):
        rows.append(" ".join(list(triple) + [show_label(book.news.labels[triple])]))
    for some in sets_of(desks):
        rows.append(" ".join(head_of(some) + [str(state) for state in book.maps[some]]))
    return "\n".join(rows)


def read_book(text):
    """The book that the text tells."""
    rows = text.split("\n")
    desks = desks_in(rows[0])
    if desks is None:
        raise NoText(1)
    line = 1
    labels = {}
    for triple in triples_of(desks):
        line += 1
        labels[triple] = label_in(row_at(rows, line), triple)
        if labels[triple] is None:
            raise NoText(line)
    maps = {}
    for some in sets_of(desks):
        line += 1
        maps[some] = map_in(row_at(rows, line), some, maps)
        if maps[some] is None:
            raise NoText(line)
    if len(rows) > line:
        raise NoText(line + 1)
    return Book(News(desks, labels), maps)


def row_at(rows, line):
    """The row of this number; without signs, as no row due is, where the text has ended."""
    return rows[line - 1] if line <= len(rows) else ""


def words_behind(row, head):
    """The row's words behind those of its head, or None where it has another head."""
    words = words_of(row)
    if words is None or words[:len(head)] != head:
        return None
    return words[len(head):]


def desks_in(row):
    """The desks that a text's first row tells, a rising tuple, or None."""
    desks = words_behind(row, ["desks"])
    if desks is None or not 1 <= len(desks) <= MOST_DESKS:
        return None
    if not all([is_name(desk) for desk in desks]) or list(rising(desks)) != desks:
        return None
    return tuple(desks)


def label_in(row, triple):
    """The label that the row of a triple tells, or None."""
    words = words_behind(row, list(triple))
    if words is None or len(words) != 1:
        return None
    if words[0] == "-":
        return OPENING
    letter, point, figures = words[0].partition(".")
    mark = number_in(figures, MARK_FIGURES)
    if mark is None or not is_name(letter):
        return None
    return (letter, mark)


def map_in(row, some, maps):
    """The map that the row of a set of desks tells, or None; maps has those ahead of it."""
    words = words_behind(row, head_of(some))
    if words is None or not 1 <= len(words) <= MOST_STATES:
        return None
    # The map of the set without desks is the first one.
    if () in maps and len(words) != len(maps[()]):
        return None
    states = [number_in(word, STATE_FIGURES) for word in words]
    if not all([state is not None and state < len(states) for state in states]):
        return None
    return tuple(states)
