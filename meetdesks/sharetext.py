"""Sharings as texts: a row for each letter, the letter and its desks."""

from meetdesks.errors import NoText
from meetdesks.sharing import Sharing
from meetdesks.words import is_name, words_of


def read_sharing(text):
    """The sharing that the text tells."""
    rows = []
    for line, row in enumerate(text.split("\n"), start=1):
        names = names_in(row)
        if names is None or len(names) < 2:
            raise NoText(line)
        rows.append((names[0], tuple(names[1:])))
    return Sharing(rows)


def names_in(row):
    """The names that are the row's words, or None where a word is no name."""
    words = words_of(row)
    if words is None or not all([is_name(word) for word in words]):
        return None
    return words


def show_sharing(sharing):
    """The sharing's text, the desks of each letter rising."""
    return "\n".join([" ".join((letter,) + sharing.meet(letter)) for letter in sharing.letters])
