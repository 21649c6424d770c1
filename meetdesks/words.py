"""What is said of names and words, for all that is told by them."""

from meetdesks.errors import NoDesk, NoLetter, Twice

SMALL_LETTERS = "abcdefghijklmnopqrstuvwxyz"
FIGURES = "0123456789"
LONGEST_NAME = 8


def is_name(word):
    """Whether it is a text of one to eight small letters a to z."""
    if not isinstance(word, str) or not 1 <= len(word) <= LONGEST_NAME:
        return False
    return all([sign in SMALL_LETTERS for sign in word])


def words_of(row):
    """The words of a row, parted by one blank; None where one has no signs."""
    words = row.split(" ")
    if "" in words:
        return None
    return words


def number_in(word, most):
    """The number that a word tells by at most so many figures, or None."""
    if not 1 <= len(word) <= most:
        return None
    # Texts have an isdigit of their own, but it lets by figures of other scripts.
    if not all([sign in FIGURES for sign in word]):
        return None
    if word[0] == "0" and word != "0":
        return None
    return int(word)


def rising(things):
    """The things as a sorted tuple, each once."""
    return tuple(sorted(set(things)))


def refuse_twice(names):
    """Refuse the first name, from the left, that stands there already."""
    seen = set()
    for name in names:
        if name in seen:
            raise Twice(name)
        seen.add(name)


def refuse_letters(letters, row):
    """Refuse the first letter of the row, from the left, that is none of the letters."""
    for letter in row:
        if letter not in letters:
            raise NoLetter(letter)


def refuse_desks(desks, group):
    """Refuse the first desk of the group, from the left, that is none of the desks."""
    for desk in group:
        if desk not in desks:
            raise NoDesk(desk)
