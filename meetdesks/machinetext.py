"""Machines as texts: a row of letters, then a row for each state."""

from meetdesks.errors import NoText
from meetdesks.machine import Machine
from meetdesks.words import is_name, number_in, words_of

MOST_FIGURES = 3


def read_machine(text):
    """The machine that the text tells."""
    rows = text.split("\n")
    letters = letters_in(rows[0])
    if letters is None:
        raise NoText(1)
    table = []
    good = []
    for line, row in enumerate(rows[1:], start=2):
        steps = steps_in(row, len(letters))
        if steps is None:
            raise NoText(line)
        if row.startswith("good "):
            good.append(len(table))
        table.append(steps)
    if not table:
        raise NoText(len(rows) + 1)
    return Machine(letters, table, good)


def letters_in(row):
    """The letters that a text's first row tells, or None."""
    words = words_of(row)
    if words is None or words[0] != "letters" or len(words) < 2:
        return None
    if not all([is_name(word) for word in words]):
        return None
    return words[1:]


def steps_in(row, many):
    """The states that a state's row tells, as many as letters, or None."""
    words = words_of(row)
    if words is None or words[0] not in ("good", "plain"):
        return None
    steps = [number_in(word, MOST_FIGURES) for word in words[1:]]
    if len(steps) != many or None in steps:
        return None
    return steps


def show_machine(machine):
    """The machine's text."""
    rows = [" ".join(("letters",) + machine.letters)]
    for state, steps in enumerate(machine.table):
        word = "good" if state in machine.good else "plain"
        rows.append(" ".join([word] + [str(step) for step in steps]))
    return "\n".join(rows)
