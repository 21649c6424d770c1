"""The refusals: each is a class of its own, right under MeetError.

None of them makes words of what it is handed: it may be anything, also a
number too large to be written by figures.
"""


class MeetError(ValueError):
    """Any refusal."""


class NoText(MeetError):
    """A row of a text, numbered from 1, is not of the form due there."""

    def __init__(self, line):
        self.line = line


class Twice(MeetError):
    """A name stands where it stood already."""

    def __init__(self, name):
        self.name = name


class BadStep(MeetError):
    """A machine's table leads from a state, by a letter, to what is no state."""

    def __init__(self, state, letter):
        self.state = state
        self.letter = letter


class BadGood(MeetError):
    """A number is told to be good that is no state."""

    def __init__(self, state):
        self.state = state


class NoLetter(MeetError):
    """A sharing or a machine hasn't this letter."""

    def __init__(self, letter):
        self.letter = letter


class NoDesk(MeetError):
    """A sharing or a hall hasn't this desk."""

    def __init__(self, desk):
        self.desk = desk


class OtherLetters(MeetError):
    """Two things that need the same letters, as told, have others."""


class Notices(MeetError):
    """A machine takes notice: two rows that are one history, just one let by."""

    def __init__(self, one, other):
        self.one = one
        self.other = other


class TooMany(MeetError):
    """More rows of places come up than the most that was told."""

    def __init__(self, most):
        self.most = most


class NoName(MeetError):
    """A word is no name, or nothing is kept by it."""

    def __init__(self, name):
        self.name = name


class NoKind(MeetError):
    """Another kind of thing is kept by a name than is needed."""


class NoRow(MeetError):
    """What was told is none of the front's rows."""
