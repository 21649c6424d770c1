"""What desks know of: points 2, 7, 12, 13 and 26, and the interface's meetdesks/history.py."""

import copy
import itertools
import random
import unittest

from meetdesks.errors import MeetError, NoDesk, NoLetter
from meetdesks.history import known, news_at
from meetdesks.sharing import Sharing

# A line of desks: each neighbour meets the next one, and some letters are done by one desk.
LINE = [("z", ("p", "q")), ("m", ("q", "r")), ("a", ("r", "s")), ("b", ("p",)), ("y", ("s",))]
# Six letters, four desks.
FULL = [("f", ("w",)), ("b", ("z", "x")), ("d", ("y",)), ("a", ("z", "y", "x", "w")), ("e", ("x",)), ("c", ("w", "y"))]
ALONE = [("a", ("x",)), ("b", ("x",))]
APART = [("a", ("x",)), ("c", ("y",)), ("b", ("z",))]
THREE = [("ab", ("a", "b")), ("bc", ("b", "c")), ("ca", ("c", "a"))]
HOUSES = (LINE, FULL, ALONE, APART, THREE)


def desks_at(rows, row, number):
    """The desks of a meeting, as the rows of the sharing tell them; at the opening are all."""
    if number == 0:
        return {desk for letter, desks in rows for desk in desks}
    return set(dict(rows)[row[number - 1]])


def under(rows, row, number):
    """The meetings from which a chain leads to this one, plainly: all neighbours of neighbours."""
    found = set()
    ends = {number}
    while ends:
        nexts = set()
        for end in ends:
            for lower in range(end):
                if lower not in found and desks_at(rows, row, lower) & desks_at(rows, row, end):
                    nexts.add(lower)
        found |= nexts
        ends = nexts
    return found


def last_of(rows, row, desk, numbers):
    return max([number for number in numbers if desk in desks_at(rows, row, number)])


def plain_known(rows, row, group):
    told = set()
    for desk in group:
        last = last_of(rows, row, desk, range(len(row) + 1))
        told |= {last} | under(rows, row, last)
    return sorted(told)


def plain_news(rows, row, desk):
    desks = sorted({name for letter, names in rows for name in names})

    def latest(asked, number):
        return last_of(rows, row, asked, {number} | under(rows, row, number))

    mine = plain_known(rows, row, [desk])
    return {
        (x, y, z): latest(z, latest(y, last_of(rows, row, x, mine)))
        for x, y, z in itertools.product(desks, repeat=3)
    }


def some_rows(rows, seed, many, most):
    chance = random.Random(seed)
    letters = [letter for letter, desks in rows]
    for number in range(many):
        yield [chance.choice(letters) for place in range(chance.randint(0, most))]


def short_rows(rows, most):
    letters = [letter for letter, desks in rows]
    for many in range(most + 1):
        for row in itertools.product(letters, repeat=many):
            yield list(row)


def desks_of(rows):
    return sorted({desk for letter, desks in rows for desk in desks})


class HistoryCase(unittest.TestCase):
    def assert_refused(self, kind, fields, asked, *told):
        for again in range(2):
            with self.assertRaises(MeetError, msg=repr(told)) as taken:
                asked(*told)
            self.assertIs(taken.exception.__class__, kind, repr(told))
            for name, value in fields.items():
                self.assertEqual(getattr(taken.exception, name), value, repr(told))


class Known(HistoryCase):
    def test_the_row_without_letters(self):
        for rows in HOUSES:
            for desk in desks_of(rows):
                self.assertEqual(known(Sharing(list(rows)), [], [desk]), [0])
            self.assertEqual(known(Sharing(list(rows)), [], desks_of(rows)), [0])

    def test_a_chain(self):
        line = Sharing(list(LINE))
        row = ["z", "m", "a"]
        self.assertEqual(known(line, row, ["p"]), [0, 1])
        self.assertEqual(known(line, row, ["q"]), [0, 1, 2])
        self.assertEqual(known(line, row, ["r"]), [0, 1, 2, 3])
        self.assertEqual(known(line, row, ["s"]), [0, 1, 2, 3])

    def test_no_chain_the_other_way(self):
        line = Sharing(list(LINE))
        row = ["a", "m", "z"]
        self.assertEqual(known(line, row, ["s"]), [0, 1])
        self.assertEqual(known(line, row, ["r"]), [0, 1, 2])
        self.assertEqual(known(line, row, ["q"]), [0, 1, 2, 3])
        self.assertEqual(known(line, row, ["p"]), [0, 1, 2, 3])

    def test_meetings_apart(self):
        line = Sharing(list(LINE))
        row = ["b", "a", "z", "y"]
        self.assertEqual(known(line, row, ["p"]), [0, 1, 3])
        self.assertEqual(known(line, row, ["s"]), [0, 2, 4])
        self.assertEqual(known(line, row, ["r"]), [0, 2])
        self.assertEqual(known(line, row, ["p", "s"]), [0, 1, 2, 3, 4])
        self.assertEqual(known(line, row, ["r", "q"]), [0, 1, 2, 3])

    def test_meetings_behind_the_desk_s_last_one(self):
        # q went on behind its meeting with p, who knows of none of this.
        line = Sharing(list(LINE))
        self.assertEqual(known(line, ["z", "m", "z", "m", "m", "y"], ["p"]), [0, 1, 2, 3])

    def test_a_desk_that_never_meets(self):
        line = Sharing(list(LINE))
        row = ["z", "b", "z", "m"] * 15
        self.assertEqual(known(line, row, ["s"]), [0])
        self.assertEqual(known(line, row, ["s", "s"]), [0])
        self.assertEqual(known(line, row, ["s", "r"]), list(range(61)))

    def test_one_desk_knows_of_all_of_its_own(self):
        alone = Sharing(list(ALONE))
        self.assertEqual(known(alone, ["a", "b"] * 30, ["x"]), list(range(61)))

    def test_all_desks_know_of_all(self):
        for rows in HOUSES:
            for row in some_rows(rows, 1, 10, 60):
                self.assertEqual(known(Sharing(list(rows)), row, desks_of(rows)), list(range(len(row) + 1)))

    def test_held_against_chains_over_short_rows(self):
        for rows, most in ((LINE, 3), (FULL, 3), (ALONE, 4), (APART, 5), (THREE, 5)):
            sharing = Sharing(list(rows))
            for row in short_rows(rows, most):
                for desk in desks_of(rows):
                    self.assertEqual(known(sharing, row, [desk]), plain_known(rows, row, [desk]), (row, desk))

    def test_held_against_chains_over_long_rows(self):
        for rows in HOUSES:
            sharing = Sharing(list(rows))
            chance = random.Random(2)
            for row in list(some_rows(rows, 3, 12, 60)) + [[chance.choice(sharing.letters) for place in range(60)]]:
                one = [chance.choice(sharing.desks)]
                for group in (one, chance.choices(sharing.desks, k=3), list(sharing.desks[:2])):
                    self.assertEqual(known(sharing, row, group), plain_known(rows, row, group))

    def test_groups_in_any_order_a_desk_more_than_once(self):
        line = Sharing(list(LINE))
        row = ["b", "a", "z", "y", "m", "b"]
        due = plain_known(LINE, row, ["p", "s"])
        for group in ("ps", "sp", "ssp", "psp", "sppsspps"):
            self.assertEqual(known(line, row, list(group)), due)
        self.assertEqual(known(line, row, ["q", "q"]), known(line, row, ["q"]))

    def test_it_is_a_list_of_numbers(self):
        told = known(Sharing(list(LINE)), ["z", "m"], ["q"])
        self.assertIs(told.__class__, list)
        for number in told:
            self.assertIs(number.__class__, int)

    def test_what_was_handed_in_is_as_it_was(self):
        line = Sharing(list(LINE))
        row, group = ["z", "m", "z"], ["s", "p", "p"]
        told = known(line, row, group)
        self.assertEqual((row, group), (["z", "m", "z"], ["s", "p", "p"]))
        self.assertEqual((line.letters, line.desks), (("z", "m", "a", "b", "y"), ("p", "q", "r", "s")))
        row.append("a")
        group.append("q")
        self.assertEqual(told, [0, 1, 2, 3])
        self.assertEqual(known(line, ["z", "m", "z"], ["s", "p", "p"]), [0, 1, 2, 3])

    def test_the_list_is_the_asker_s_own(self):
        line = Sharing(list(LINE))
        for row in ([], ["z"], ["z", "m", "z"]):
            due = plain_known(LINE, row, ["p"])
            told = known(line, row, ["p"])
            told.append(99)
            told[0] = 7
            self.assertEqual(known(line, row, ["p"]), due)


class NewsAt(HistoryCase):
    def test_the_row_without_letters(self):
        for rows in HOUSES:
            desks = desks_of(rows)
            for desk in desks:
                due = {triple: 0 for triple in itertools.product(desks, repeat=3)}
                self.assertEqual(news_at(Sharing(list(rows)), [], desk), due)

    def test_first_hand(self):
        line = Sharing(list(LINE))
        news = news_at(line, ["z", "m", "a"], "r")
        self.assertEqual([news[(x, x, x)] for x in "pqrs"], [1, 2, 3, 3])
        news = news_at(line, ["z", "m", "a", "z", "b"], "s")
        self.assertEqual([news[(x, x, x)] for x in "pqrs"], [1, 2, 3, 3])

    def test_second_and_third_hand(self):
        line = Sharing(list(LINE))
        # r meets q at 2, where q knew of p's 1; then r meets s at 3.
        news = news_at(line, ["z", "m", "a", "z", "y"], "s")
        self.assertEqual(news[("s", "s", "s")], 5)
        self.assertEqual(news[("s", "r", "r")], 3)
        self.assertEqual(news[("r", "q", "q")], 2)
        self.assertEqual(news[("r", "q", "p")], 1)
        self.assertEqual(news[("p", "q", "r")], 0)
        self.assertEqual(news[("q", "p", "q")], 1)
        self.assertEqual(news[("q", "p", "p")], 1)
        self.assertEqual(news[("p", "s", "s")], 0)

    def test_unlike_orders_of_hands_are_unlike(self):
        line = Sharing(list(LINE))
        news = news_at(line, ["z", "b", "m", "z", "a"], "q")
        self.assertEqual(news[("p", "q", "r")], 3)
        self.assertEqual(news[("r", "q", "p")], 1)
        self.assertEqual(news[("r", "p", "q")], 1)
        self.assertEqual(news[("p", "r", "q")], 3)

    def test_all_triples_and_numbers(self):
        for rows in HOUSES:
            sharing = Sharing(list(rows))
            for desk in sharing.desks:
                news = news_at(sharing, [sharing.letters[0]] * 3, desk)
                self.assertIs(news.__class__, dict)
                self.assertEqual(set(news), set(itertools.product(sharing.desks, repeat=3)))
                for number in news.values():
                    self.assertIs(number.__class__, int)

    def test_one_desk(self):
        self.assertEqual(news_at(Sharing(list(ALONE)), ["a", "b"] * 30, "x"), {("x", "x", "x"): 60})

    def test_a_desk_that_never_meets(self):
        line = Sharing(list(LINE))
        row = ["z", "b", "m"] * 20
        self.assertEqual(set(news_at(line, row, "s").values()), {0})
        self.assertEqual(news_at(line, row, "q")[("s", "s", "s")], 0)
        self.assertEqual(news_at(line, row, "q")[("s", "p", "p")], 0)
        self.assertEqual(news_at(line, row, "q")[("p", "p", "p")], 58)

    def test_held_against_chains_over_short_rows(self):
        for rows, most in ((LINE, 3), (FULL, 2), (ALONE, 4), (APART, 4), (THREE, 4)):
            sharing = Sharing(list(rows))
            for row in short_rows(rows, most):
                for desk in desks_of(rows):
                    self.assertEqual(news_at(sharing, row, desk), plain_news(rows, row, desk), (row, desk))

    def test_held_against_chains_over_longer_rows(self):
        for rows in HOUSES:
            sharing = Sharing(list(rows))
            for row in some_rows(rows, 4, 6, 16):
                for desk in desks_of(rows):
                    self.assertEqual(news_at(sharing, row, desk), plain_news(rows, row, desk), (row, desk))

    def test_held_against_chains_over_sixty_letters(self):
        for rows in (LINE, FULL, THREE):
            sharing = Sharing(list(rows))
            chance = random.Random(5)
            row = [chance.choice(sharing.letters) for place in range(60)]
            desk = chance.choice(sharing.desks)
            self.assertEqual(news_at(sharing, row, desk), plain_news(rows, row, desk))

    def test_what_was_handed_in_is_as_it_was(self):
        line = Sharing(list(LINE))
        row = ["z", "m", "z"]
        told = news_at(line, row, "p")
        self.assertEqual(row, ["z", "m", "z"])
        kept = dict(told)
        row.append("b")
        self.assertEqual(told, kept)
        self.assertEqual(news_at(line, ["z", "m", "z"], "p"), kept)

    def test_the_dict_is_the_asker_s_own(self):
        line = Sharing(list(LINE))
        told = news_at(line, ["z", "m", "z"], "p")
        kept = copy.deepcopy(told)
        told[("p", "p", "p")] = 99
        del told[("q", "q", "q")]
        self.assertEqual(news_at(line, ["z", "m", "z"], "p"), kept)
        self.assertIsNot(news_at(line, [], "p"), news_at(line, [], "p"))
        first = news_at(line, [], "p")
        first.clear()
        self.assertEqual(len(news_at(line, [], "q")), 64)


class Refused(HistoryCase):
    def test_a_strange_letter_at_every_place(self):
        line = Sharing(list(LINE))
        for at in range(60):
            row = ["z", "m", "a", "b"] * 15
            row[at] = "x"
            self.assert_refused(NoLetter, {"letter": "x"}, known, line, row, ["p"])
            self.assert_refused(NoLetter, {"letter": "x"}, news_at, line, row, "p")

    def test_of_several_letters_the_first(self):
        line = Sharing(list(LINE))
        for row, letter in ((["x", "k"], "x"), (["k", "x"], "k"), (["z", "k", "x"], "k"), (["p"], "p"), (["zz"], "zz")):
            self.assert_refused(NoLetter, {"letter": letter}, known, line, row, ["p"])
            self.assert_refused(NoLetter, {"letter": letter}, news_at, line, row, "p")

    def test_a_strange_desk_at_every_place(self):
        line = Sharing(list(LINE))
        for at in range(8):
            group = ["p", "q", "s", "r", "p", "p", "s", "q"]
            group[at] = "t"
            self.assert_refused(NoDesk, {"desk": "t"}, known, line, ["z"], group)
            self.assert_refused(NoDesk, {"desk": "t"}, known, line, [], group)
        self.assert_refused(NoDesk, {"desk": "t"}, news_at, line, ["z"], "t")
        self.assert_refused(NoDesk, {"desk": "t"}, news_at, line, [], "t")

    def test_of_several_desks_the_first_from_the_left(self):
        line = Sharing(list(LINE))
        for group, desk in ((["u", "t"], "u"), (["t", "u"], "t"), (["p", "u", "q", "t"], "u"), (["pp", "a"], "pp")):
            self.assert_refused(NoDesk, {"desk": desk}, known, line, ["z"], group)

    def test_a_letter_is_no_desk(self):
        line = Sharing(list(LINE))
        self.assert_refused(NoDesk, {"desk": "z"}, known, line, ["z"], ["p", "z"])
        self.assert_refused(NoDesk, {"desk": "z"}, news_at, line, ["z"], "z")

    def test_a_letter_ahead_of_a_desk(self):
        line = Sharing(list(LINE))
        self.assert_refused(NoLetter, {"letter": "x"}, known, line, ["z", "x"], ["t"])
        self.assert_refused(NoLetter, {"letter": "x"}, known, line, ["z", "z", "x"], ["t", "p", "u"])
        self.assert_refused(NoLetter, {"letter": "x"}, news_at, line, ["x"], "t")
        self.assert_refused(NoLetter, {"letter": "p"}, news_at, line, ["z", "p"], "z")

    def test_it_changes_nothing(self):
        line = Sharing(list(LINE))
        row, group = ["z", "x", "m"], ["p", "t"]
        self.assertRaises(NoLetter, known, line, row, group)
        self.assertRaises(NoLetter, news_at, line, row, "t")
        self.assertRaises(NoDesk, known, line, ["z"], group)
        self.assertEqual((row, group), (["z", "x", "m"], ["p", "t"]))
        self.assertEqual(known(line, ["z", "m"], ["r"]), [0, 1, 2])


if __name__ == "__main__":
    unittest.main()
