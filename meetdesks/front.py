"""The front: sharings, machines and halls kept by names, and told of by rows of words."""

from meetdesks.booktext import show_book, show_label
from meetdesks.errors import NoKind, NoName, NoRow
from meetdesks.hall import Hall
from meetdesks.least import both, either, least, turned
from meetdesks.machine import Machine
from meetdesks.machinetext import read_machine, show_machine
from meetdesks.notice import notice
from meetdesks.sharetext import read_sharing, show_sharing
from meetdesks.sharing import Sharing
from meetdesks.words import is_name, refuse_letters

# For each first word what its names are for: a new thing, or which kind of thing is kept by them.
NAMES = {
    "sharing": ("new",),
    "machine": ("new",),
    "hall": ("new", "sharing", "machine"),
    "twin": ("new", "hall"),
    "least": ("new", "machine"),
    "turned": ("new", "machine"),
    "both": ("new", "machine", "machine"),
    "either": ("new", "machine", "machine"),
    "show": ("shown",),
    "notice": ("sharing", "machine"),
    "do": ("hall",),
    "lets": ("hall",),
    "state": ("hall",),
    "sure": ("hall",),
    "newer": ("hall",),
    "book": ("hall",),
}

# How few and how many words stand behind the names, where some do.
MORE_WORDS = {
    "sharing": (1, 1),
    "machine": (1, 1),
    "do": (1, 60),
    "state": (1, 8),
    "sure": (1, 8),
    "newer": (3, 3),
    "book": (1, 1),
}

# Rows at whose end a text stands, all that is behind the second blank.
WITH_TEXT = ("sharing", "machine")


def make_sharing(things, words):
    return read_sharing(words[0].replace("/", "\n"))


def make_machine(things, words):
    return read_machine(words[0].replace("/", "\n"))


def make_hall(things, words):
    return Hall(things[0], things[1])


def make_twin(things, words):
    return things[0].twin()


def make_least(things, words):
    return least(things[0])


def make_turned(things, words):
    return turned(things[0])


def make_both(things, words):
    return both(things[0], things[1])


def make_either(things, words):
    return either(things[0], things[1])


def tell_shown(things, words):
    return on_one_row(show_sharing(things[0]) if is_kind(things[0], "sharing") else show_machine(things[0]))


def tell_notice(things, words):
    rows = notice(things[0], things[1])
    if rows is None:
        return "none"
    return " ".join(rows[0] + [","] + rows[1])


def tell_done(things, words):
    # Where one is refused none is done, so all are looked at first.
    refuse_letters(things[0].machine.letters, words)
    return " ".join([show_label(things[0].do(letter)) for letter in words])


def tell_lets(things, words):
    return "yes" if things[0].lets_by() else "no"


def tell_state(things, words):
    return str(things[0].stands(words))


def tell_sure(things, words):
    return things[0].sure(words)


def tell_newer(things, words):
    whose = things[0].newer(words[0], words[1], words[2])
    if whose == 0:
        return "same"
    return "one" if whose == 1 else "other"


def tell_book(things, words):
    return on_one_row(show_book(things[0].book(words[0])))


MAKERS = {
    "sharing": make_sharing,
    "machine": make_machine,
    "hall": make_hall,
    "twin": make_twin,
    "least": make_least,
    "turned": make_turned,
    "both": make_both,
    "either": make_either,
}

TELLERS = {
    "show": tell_shown,
    "notice": tell_notice,
    "do": tell_done,
    "lets": tell_lets,
    "state": tell_state,
    "sure": tell_sure,
    "newer": tell_newer,
    "book": tell_book,
}


class Front:
    """Things that are kept by names; each row that is said makes one or tells of them."""

    def __init__(self):
        self.kept = {}

    def say(self, row):
        """Do what the row says; its answer."""
        words = words_said(row)
        wants = NAMES[words[0]]
        names = words[1:len(wants) + 1]
        refuse_names(self.kept, wants, names)
        refuse_kinds(self.kept, wants, names)
        things = [self.kept[name] for want, name in zip(wants, names) if want != "new"]
        more = words[len(wants) + 1:]
        if words[0] in MAKERS:
            maker = MAKERS[words[0]]
            self.kept[names[0]] = maker(things, more)
            return "ok"
        teller = TELLERS[words[0]]
        return teller(things, more)


def words_said(row):
    """The words of the row, a text at its end as one of them; refused where it is none of the rows."""
    if not isinstance(row, str):
        raise NoRow()
    words = row.split(" ")
    plain = words
    if words[0] in WITH_TEXT:
        words = row.split(" ", 2)
        # A text may be any, also one without signs.
        plain = words[:2]
    if words[0] not in NAMES or "" in plain:
        raise NoRow()
    few, many = MORE_WORDS.get(words[0], (0, 0))
    if not few <= len(words) - 1 - len(NAMES[words[0]]) <= many:
        raise NoRow()
    return words


def refuse_names(kept, wants, names):
    """Refuse the first name, from the left, that is none for a new thing, or by which nothing is kept."""
    for want, name in zip(wants, names):
        if want == "new" and not is_name(name):
            raise NoName(name)
        if want != "new" and name not in kept:
            raise NoName(name)


def refuse_kinds(kept, wants, names):
    """Refuse where another kind of thing is kept by a name than is needed."""
    for want, name in zip(wants, names):
        if want != "new" and not is_kind(kept[name], want):
            raise NoKind()


def is_kind(thing, kind):
    """Whether the thing is of this kind; shown are sharings and machines."""
    if kind == "sharing":
        return isinstance(thing, Sharing)
    if kind == "machine":
        return isinstance(thing, Machine)
    if kind == "hall":
        return isinstance(thing, Hall)
    return isinstance(thing, (Sharing, Machine))


def on_one_row(text):
    """The text with a slash in the place of each line feed."""
    return text.replace("\n", "/")
