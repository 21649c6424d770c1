"""Tables: points 2, 3, 7 and 29 to 31, and the interface's meetdesks/tables.py."""

import itertools
import random
import unittest

from meetdesks.booktext import show_book
from meetdesks.errors import NoLetter, Notices, OtherLetters, TooMany
from meetdesks.hall import Hall
from meetdesks.least import least, turned
from meetdesks.machine import Machine, lets_by
from meetdesks.notice import notice
from meetdesks.sharing import Sharing
from meetdesks.tables import Tables, held, places_at, tables_let, tables_of
from plain import (
    ALONE, APART, FULL, LINE, PAIR, RING, STAR, RefusalCase, desks_of, fields, letters_of, rows_up_to,
    some_quiet_machine, some_row, some_sharing,
)

# Two desks: m is done by both, b by y, a by x; x counts its own letters to two, y to three.
SMALL_MOVES = {
    ("a", (0,)): (1,), ("a", (1,)): (0,),
    ("b", (0,)): (1,), ("b", (1,)): (2,), ("b", (2,)): (0,),
    ("m", (0, 0)): (1, 1), ("m", (1, 2)): (0, 0), ("m", (1, 1)): (0, 2),
}
SMALL_GOOD = [(0, 0), (1, 1), (0, 2)]


def small_tables():
    return Tables(Sharing(list(PAIR)), dict(SMALL_MOVES), list(SMALL_GOOD))


def plain_places(rows, moves, row):
    """Where the desks are behind the row, by dicts from desks to places, or None."""
    desks = desks_of(rows)
    now = {desk: 0 for desk in desks}
    for letter in row:
        mine = sorted(dict(rows)[letter])
        after = moves.get((letter, tuple([now[desk] for desk in mine])))
        if after is None:
            return None
        now.update(zip(mine, after))
    return tuple([now[desk] for desk in desks])


def some_tables(chance, rows, sizes, lacking):
    """Moves drawn for all places of each letter's desks, some of them left out, and good rows of places."""
    desks = desks_of(rows)
    places = {desk: chance.choice(sizes) for desk in desks}
    moves = {}
    for letter, names in rows:
        mine = sorted(names)
        for ahead in itertools.product(*[range(places[desk]) for desk in mine]):
            if chance.random() >= lacking:
                moves[(letter, ahead)] = tuple([chance.randrange(places[desk]) for desk in mine])
    good = [told for told in itertools.product(*[range(places[desk]) for desk in desks]) if chance.random() < 0.4]
    return moves, good


def machine_like(rows, moves, good):
    """The machine that does as the tables: its states are the rows of places that come up, and None."""
    states = [tuple([0 for desk in desks_of(rows)])]
    came = {states[0]: []}
    table = []
    for state in states:
        steps = []
        for letter in letters_of(rows):
            after = None if state is None else plain_places(rows, moves, came[state] + [letter])
            if after not in came:
                came[after] = came[state] + [letter]
                states.append(after)
            steps.append(states.index(after))
        table.append(steps)
    return Machine(letters_of(rows), table, [at for at, state in enumerate(states) if state in good])


def plain_first(tables, machine):
    """The first row of which just one lets by: all rows by length and order, one for each pair that came up."""
    coming = [([], plain_pair(tables, machine, []))]
    seen = {coming[0][1]}
    for row, (places, state) in coming:
        if (places in tables.good) != (state in machine.good):
            return row
        for letter in machine.letters:
            pair = plain_pair(tables, machine, row + [letter])
            if pair not in seen:
                seen.add(pair)
                coming.append((row + [letter], pair))
    return None


def plain_pair(tables, machine, row):
    state = 0
    for letter in row:
        state = machine.table[state][machine.letters.index(letter)]
    rows = [(letter, tables.sharing.meet(letter)) for letter in tables.sharing.letters]
    return plain_places(rows, tables.moves, row), state


def plain_tables(rows, machine, most):
    """The moves and good rows of point 31, by halls that do the letters; None where too many come up."""
    desks = desks_of(rows)
    hall = Hall(Sharing(list(rows)), machine)
    numbers = {desk: {show_book(hall.book(desk)): 0} for desk in desks}
    halls = {(0,) * len(desks): hall}
    coming = [(0,) * len(desks)]
    moves, good = {}, []
    for places in coming:
        if halls[places].lets_by():
            good.append(places)
        for letter, names in rows:
            other = halls[places].twin()
            other.do(letter)
            after = dict(zip(desks, places))
            for desk in sorted(names):
                after[desk] = numbers[desk].setdefault(show_book(other.book(desk)), len(numbers[desk]))
            mine = tuple([place for desk, place in zip(desks, places) if desk in names])
            moves[(letter, mine)] = tuple([after[desk] for desk in sorted(names)])
            told = tuple([after[desk] for desk in desks])
            if told not in halls:
                halls[told] = other
                coming.append(told)
                if len(coming) > most:
                    return None
    return moves, sorted(good), len(coming)


class Fields(RefusalCase):
    def test_sharing_moves_and_good(self):
        sharing = Sharing(list(PAIR))
        tables = Tables(sharing, dict(SMALL_MOVES), list(SMALL_GOOD))
        self.assertIsInstance(tables.sharing, Sharing)
        self.assertEqual((tables.sharing.letters, tables.sharing.desks), (("m", "b", "a"), ("x", "y")))
        self.assertEqual(tables.moves, SMALL_MOVES)
        self.assertIs(tables.moves.__class__, dict)
        self.assertEqual(tables.good, [(0, 0), (0, 2), (1, 1)])
        self.assertIs(tables.good.__class__, list)

    def test_good_each_once_and_sorted(self):
        good = [(10, 0), (2, 5), (9, 9), (2, 5), (0, 10), (0, 9), (10, 0), (2, 40)]
        tables = Tables(Sharing(list(PAIR)), {}, good)
        self.assertEqual(tables.good, [(0, 9), (0, 10), (2, 5), (2, 40), (9, 9), (10, 0)])
        self.assertEqual(good[0], (10, 0))
        self.assertEqual(len(good), 8)

    def test_no_moves_and_no_good(self):
        tables = Tables(Sharing(list(PAIR)), {}, [])
        self.assertEqual((tables.moves, tables.good), ({}, []))
        self.assertEqual(places_at(tables, []), (0, 0))
        self.assertIs(tables_let(tables, []), False)
        self.assertIsNone(places_at(tables, ["a"]))

    def test_what_is_handed_in_is_changed_later(self):
        moves, good = dict(SMALL_MOVES), list(SMALL_GOOD)
        tables = Tables(Sharing(list(PAIR)), moves, good)
        moves[("a", (0,))] = (5,)
        moves.pop(("b", (0,)))
        good.append((7, 7))
        good.remove((0, 0))
        self.assertEqual(tables.moves, SMALL_MOVES)
        self.assertEqual(tables.good, sorted(SMALL_GOOD))
        moves.clear()
        good.clear()
        self.assertEqual(places_at(tables, ["a", "b"]), (1, 1))
        self.assertIs(tables_let(tables, ["a", "b"]), True)

    def test_what_is_kept_is_not_what_was_handed_in(self):
        moves, good = dict(SMALL_MOVES), list(SMALL_GOOD)
        tables = Tables(Sharing(list(PAIR)), moves, good)
        tables.moves.clear()
        tables.good.clear()
        self.assertEqual((moves, good), (SMALL_MOVES, SMALL_GOOD))


class PlacesAt(RefusalCase):
    def test_rows(self):
        tables = small_tables()
        for row, due in (
            ([], (0, 0)), (["a"], (1, 0)), (["b"], (0, 1)), (["m"], (1, 1)), (["m", "m"], (0, 2)),
            (["a", "b", "b", "m"], (0, 0)), (["a", "a"], (0, 0)), (["b", "a", "m", "b"], (0, 0)),
        ):
            told = places_at(tables, row)
            self.assertIs(told.__class__, tuple)
            self.assertEqual(told, due, row)

    def test_a_move_lacks(self):
        tables = small_tables()
        for row in (["a", "m"], ["b", "m"], ["m", "m", "m"], ["a", "m", "a"], ["a", "m", "b", "b", "m"]):
            self.assertIsNone(places_at(tables, row), row)
            self.assertIs(tables_let(tables, row), False)

    def test_all_rows_of_places_and_most(self):
        chance = random.Random(1)
        nones = set()
        for lacking in (0, 0.1, 0.3):
            for turn in range(20):
                rows = some_sharing(chance)
                moves, good = some_tables(chance, rows, (1, 2, 3), lacking)
                tables = Tables(Sharing(rows), moves, good)
                for row in [[]] + [some_row(chance, rows, chance.randint(1, 60)) for turn in range(10)]:
                    due = plain_places(rows, moves, row)
                    self.assertEqual(places_at(tables, row), due)
                    self.assertIs(tables_let(tables, row), due in good)
                    nones.add((lacking, due is None))
        self.assertEqual(nones, {(0, False), (0.1, False), (0.1, True), (0.3, False), (0.3, True)})

    def test_sixty_letters(self):
        tables = small_tables()
        self.assertEqual(places_at(tables, ["a", "b", "a", "b"] * 15), (0, 0))
        self.assertIs(tables_let(tables, ["a", "b", "a", "b"] * 15), True)
        self.assertIs(tables_let(tables, ["b"] * 59), True)
        self.assertIs(tables_let(tables, ["b"] * 58), False)
        self.assertIsNone(places_at(tables, ["a"] * 59 + ["m"]))

    def test_the_fields_changed_and_put_back(self):
        tables = small_tables()
        tables.moves[("a", (0,))] = (4,)
        self.assertEqual(places_at(tables, ["a"]), (4, 0))
        self.assertIsNone(places_at(tables, ["a", "a"]))
        tables.moves.pop(("a", (0,)))
        self.assertIsNone(places_at(tables, ["a"]))
        tables.moves[("a", (0,))] = (1,)
        self.assertEqual(places_at(tables, ["a", "a"]), (0, 0))
        tables.good.append((1, 0))
        self.assertIs(tables_let(tables, ["a"]), True)
        tables.good.remove((1, 0))
        self.assertIs(tables_let(tables, ["a"]), False)
        kept, tables.good = tables.good, []
        self.assertIs(tables_let(tables, []), False)
        tables.good = kept
        self.assertIs(tables_let(tables, []), True)

    def test_nothing_is_changed(self):
        tables = small_tables()
        row = ["m", "m", "b"]
        for again in range(2):
            self.assertEqual(places_at(tables, row), (0, 0))
            self.assertIs(tables_let(tables, row), True)
        self.assertEqual(row, ["m", "m", "b"])
        self.assertEqual((tables.moves, tables.good), (SMALL_MOVES, sorted(SMALL_GOOD)))

    def test_strange_letters(self):
        tables = small_tables()
        for asked in (places_at, tables_let):
            for at in range(30):
                row = ["a", "b", "a"] * 10
                row[at] = "x"
                self.assert_refused(NoLetter, {"letter": "x"}, asked, tables, row)
            self.assert_refused(NoLetter, {"letter": "k"}, asked, tables, ["a", "k", "l"])

    def test_strange_letters_though_a_move_lacks_ahead(self):
        for asked in (places_at, tables_let):
            self.assert_refused(NoLetter, {"letter": "k"}, asked, small_tables(), ["a", "m", "a", "k"])
            self.assert_refused(NoLetter, {"letter": "k"}, asked, small_tables(), ["b", "m", "k", "l"])
            self.assert_refused(NoLetter, {"letter": "k"}, asked, Tables(Sharing(list(PAIR)), {}, []), ["a", "k"])


class Held(RefusalCase):
    def test_the_machine_that_does_likewise(self):
        chance = random.Random(2)
        for turn in range(60):
            rows = some_sharing(chance, most_desks=3)
            moves, good = some_tables(chance, rows, (1, 2, 3), chance.choice([0, 0.2]))
            tables, machine = Tables(Sharing(rows), moves, good), machine_like(rows, moves, good)
            self.assertIsNone(held(tables, machine))
            self.assertIsNone(held(tables, least(machine)))
            self.assertEqual(held(tables, turned(machine)), [])

    def assert_first(self, tables, machine):
        told, due = held(tables, machine), plain_first(tables, machine)
        self.assertEqual(told, due)
        self.assertEqual(held(tables, machine), due)
        if told is not None:
            self.assertIs(told.__class__, list)
            self.assertNotEqual(tables_let(tables, told), lets_by(machine, told))
        return told

    def test_one_move_one_good_row_or_one_step_otherwise(self):
        chance = random.Random(3)
        lengths = set()
        for turn in range(150):
            rows = some_sharing(chance, most_desks=3)
            moves, good = some_tables(chance, rows, (1, 2, 3), chance.choice([0, 0.1]))
            machine = machine_like(rows, moves, good)
            tables = Tables(Sharing(rows), moves, good)
            if turn % 3 == 0 and moves:
                move = chance.choice(sorted(moves))
                tables.moves[move] = tuple([0 for place in moves[move]])
            elif turn % 3 == 1 and good:
                tables.good.remove(chance.choice(good))
            else:
                table = [list(steps) for steps in machine.table]
                steps = chance.choice(table)
                steps[chance.randrange(len(rows))] = chance.randrange(len(table))
                machine = Machine(list(machine.letters), table, list(machine.good))
            told = self.assert_first(tables, machine)
            lengths.add(None if told is None else len(told))
        self.assertIn(None, lengths)
        self.assertGreater(len(lengths), 5)

    def test_by_order_of_the_letters_not_the_alphabet(self):
        # All rows of one letter are let by by the machine, none by the tables.
        sharing = Sharing(list(PAIR))
        machine = Machine(["m", "b", "a"], [[1, 1, 1], [1, 1, 1]], [1])
        self.assertEqual(held(Tables(sharing, {}, []), machine), ["m"])
        tables = Tables(sharing, {("m", (0, 0)): (1, 1)}, [(1, 1)])
        self.assertEqual(held(tables, machine), ["b"])
        # Shorter ones first, though the letters of a longer one stand ahead.
        tables = Tables(sharing, {("m", (0, 0)): (1, 1), ("b", (0,)): (1,)}, [(1, 1), (0, 1)])
        self.assertEqual(held(tables, machine), ["a"])

    def test_held_against_all_rows(self):
        chance = random.Random(4)
        for turn in range(100):
            rows = some_sharing(chance, most_letters=3, most_desks=2)
            moves, good = some_tables(chance, rows, (1, 2), 0.1)
            many = chance.randint(1, 3)
            table = [[chance.randrange(many) for letter in rows] for state in range(many)]
            machine = Machine(letters_of(rows), table, [state for state in range(many) if chance.random() < 0.5])
            tables = Tables(Sharing(rows), moves, good)
            told = self.assert_first(tables, machine)
            for row in rows_up_to(letters_of(rows), 5):
                if tables_let(tables, row) != lets_by(machine, row):
                    self.assertEqual(told, row)
                    break

    def test_the_row_without_letters(self):
        tables = small_tables()
        self.assertEqual(held(tables, Machine(["m", "b", "a"], [[0, 0, 0]], [])), [])
        tables.good.clear()
        self.assertEqual(held(tables, Machine(["m", "b", "a"], [[0, 0, 0]], [0])), [])
        self.assertIsNone(held(tables, Machine(["m", "b", "a"], [[0, 0, 0]], [])))

    def test_behind_a_letter_without_a_move(self):
        # The tables let nothing by behind m; the machine lets by behind m m m.
        sharing = Sharing([("m", ("x", "y"))])
        machine = Machine(["m"], [[1], [2], [3], [3]], [3])
        self.assertEqual(held(Tables(sharing, {}, [(0, 1)]), machine), ["m", "m", "m"])
        self.assertIsNone(held(Tables(sharing, {}, [(0, 1)]), Machine(["m"], [[0]], [])))
        self.assertEqual(held(Tables(sharing, {}, [(0, 0)]), Machine(["m"], [[1], [2], [0]], [0])), ["m", "m", "m"])

    def test_rows_of_more_than_60_letters(self):
        # Two desks that count round and round, good but where both are at their last place.
        rows = [("a", ("x", "y"))]
        moves = {("a", (one, other)): ((one + 1) % 9, (other + 1) % 10)
                 for one in range(9) for other in range(10)}
        good = [(one, other) for one in range(9) for other in range(10) if (one, other) != (8, 9)]
        tables = Tables(Sharing(rows), moves, good)
        self.assertEqual(held(tables, Machine(["a"], [[0]], [0])), ["a"] * 89)
        long = [[(state + 1) % 300] for state in range(300)]
        sharing = Sharing([("a", ("x",))])
        moves = {("a", (place,)): ((place + 1) % 300,) for place in range(300)}
        tables = Tables(sharing, moves, [(place,) for place in range(299)])
        self.assertIsNone(held(tables, Machine(["a"], long, list(range(299)))))
        self.assertEqual(held(tables, Machine(["a"], long, list(range(300)))), ["a"] * 299)

    def test_1500_pairs(self):
        rows = [("a", ("x",)), ("b", ("x",))]
        moves = {}
        for place in range(60):
            moves[("a", (place,))] = ((place + 1) % 60,)
            moves[("b", (place,))] = (0,)
        table = [[(state + 1) % 23, 0] for state in range(23)]
        tables = Tables(Sharing(rows), moves, [(place,) for place in range(60)])
        self.assertIsNone(held(tables, Machine(["a", "b"], table, list(range(23)))))
        tables.good.remove((59,))
        self.assertEqual(held(tables, Machine(["a", "b"], table, list(range(23)))), ["a"] * 59)

    def test_other_letters(self):
        tables = small_tables()
        for letters in (["b", "m", "a"], ["m", "b"], ["m", "b", "a", "c"], ["x", "y", "z"], ["a", "b", "m"]):
            machine = Machine(letters, [[0] * len(letters)], [])
            self.assert_refused(OtherLetters, {}, held, tables, machine)

    def test_nothing_is_changed(self):
        tables, machine = small_tables(), Machine(["m", "b", "a"], [[1, 1, 1], [1, 1, 1]], [1])
        kept = fields(machine)
        told = held(tables, machine)
        told.append("x")
        self.assertEqual(held(tables, machine), told[:-1])
        self.assertEqual((tables.moves, tables.good), (SMALL_MOVES, sorted(SMALL_GOOD)))
        self.assertEqual(fields(machine), kept)


class TablesOf(RefusalCase):
    def test_one_desk_and_one_letter(self):
        # Its marks are 0 and 1, in turn, behind the opening.
        sharing = Sharing([("a", ("x",))])
        tables = tables_of(sharing, Machine(["a"], [[0]], [0]), 3)
        self.assertIsInstance(tables, Tables)
        self.assertEqual(tables.moves, {("a", (0,)): (1,), ("a", (1,)): (2,), ("a", (2,)): (1,)})
        self.assertEqual(tables.good, [(0,), (1,), (2,)])
        self.assertEqual(tables.sharing.letters, ("a",))
        self.assert_refused(TooMany, {"most": 2}, tables_of, sharing, Machine(["a"], [[0]], [0]), 2)
        self.assert_refused(TooMany, {"most": 1}, tables_of, sharing, Machine(["a"], [[0]], [0]), 1)

    def test_desks_apart(self):
        sharing, machine = Sharing(list(APART)), Machine(["c", "a", "b"], [[1, 0, 0], [0, 1, 1]], [1])
        tables = tables_of(sharing, machine, 300)
        self.assertEqual(tables.sharing.desks, ("x", "y", "z"))
        self.assertIsNone(held(tables, machine))
        # Each desk goes on alone, so no move tells of more than one place.
        self.assertEqual({len(ahead) for letter, ahead in tables.moves}, {1})

    def test_held_against_halls(self):
        chance = random.Random(5)
        told = 0
        for turn in range(60):
            rows = some_sharing(chance, most_letters=3, most_desks=4)
            machine = some_quiet_machine(chance, rows, sizes=(1, 1, 2), most=6)
            due = plain_tables(rows, machine, 300)
            if due is None:
                self.assert_refused(TooMany, {"most": 300}, tables_of, Sharing(rows), machine, 300)
                continue
            moves, good, many = due
            tables = tables_of(Sharing(rows), machine, 300)
            self.assertEqual(tables.moves, moves)
            self.assertEqual(tables.good, good)
            self.assertIsNone(held(tables, machine))
            # Just as many as most tells, and one fewer.
            again = tables_of(Sharing(rows), machine, many)
            self.assertEqual((again.moves, again.good), (moves, good))
            if many > 1:
                self.assert_refused(TooMany, {"most": many - 1}, tables_of, Sharing(rows), machine, many - 1)
            told += 1
        self.assertGreater(told, 30)

    def test_pairs_held_against_halls(self):
        chance = random.Random(6)
        for rows in (ALONE, PAIR, APART):
            for turn in range(4):
                machine = some_quiet_machine(chance, rows, sizes=(1, 2), most=4)
                due = plain_tables(rows, machine, 300)
                if due is not None:
                    tables = tables_of(Sharing(list(rows)), machine, 300)
                    self.assertEqual((tables.moves, tables.good), due[:2])
                    self.assertIsNone(held(tables, machine))

    def test_too_many(self):
        chance = random.Random(7)
        for rows in (LINE, RING, FULL, STAR):
            machine = some_quiet_machine(chance, rows)
            for most in (1, 2, 17, 300):
                self.assert_refused(TooMany, {"most": most}, tables_of, Sharing(list(rows)), machine, most)

    def test_they_let_by_what_the_machine_lets_by(self):
        chance = random.Random(8)
        for rows in (ALONE, PAIR, APART):
            machine = some_quiet_machine(chance, rows, sizes=(2,), most=8)
            sharing = Sharing(list(rows))
            try:
                tables = tables_of(sharing, machine, 300)
            except TooMany:
                continue
            for turn in range(40):
                row = some_row(chance, rows, chance.randint(0, 60))
                self.assertIs(tables_let(tables, row), lets_by(machine, row))

    def test_other_letters_ahead_of_notices_ahead_of_too_many(self):
        sharing = Sharing(list(PAIR))
        last = [[0, 1, 2], [1, 1, 2], [2, 1, 2]]
        notices = Machine(["m", "b", "a"], last, [1])
        due = notice(sharing, notices)
        self.assert_refused(OtherLetters, {}, tables_of, sharing, Machine(["b", "m", "a"], last, [1]), 1)
        self.assert_refused(OtherLetters, {}, tables_of, sharing, Machine(["m", "b"], [[0, 0]], [0]), 1)
        self.assert_refused(Notices, {"one": due[0], "other": due[1]}, tables_of, sharing, notices, 1)
        self.assert_refused(TooMany, {"most": 1}, tables_of, sharing, Machine(["m", "b", "a"], [[0, 0, 0]], [0]), 1)

    def test_the_asker_s_own(self):
        sharing, machine = Sharing(list(ALONE)), Machine(["b", "a"], [[1, 0], [0, 1]], [1])
        kept = fields(machine)
        one = tables_of(sharing, machine, 100)
        moves, good = dict(one.moves), list(one.good)
        one.moves.clear()
        one.good.clear()
        other = tables_of(sharing, machine, 100)
        self.assertEqual((other.moves, other.good), (moves, good))
        self.assertEqual(fields(machine), kept)


if __name__ == "__main__":
    unittest.main()
