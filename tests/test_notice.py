"""Free pairs and notice: points 2, 16 and 17, and the interface's meetdesks/notice.py."""

import itertools
import random
import unittest

from meetdesks.errors import MeetError, OtherLetters
from meetdesks.machine import Machine, lets_by
from meetdesks.notice import free_pairs, notice
from meetdesks.sharing import Sharing, apart


def fields(machine):
    return machine.letters, machine.table, machine.good


def rows_up_to(letters, most):
    """All rows of at most so many letters, by length and order."""
    for many in range(most + 1):
        for row in itertools.product(letters, repeat=many):
            yield list(row)


def exchanged(row, at):
    return row[:at] + [row[at + 1], row[at]] + row[at + 2:]


def otherwise(sharing, machine, row):
    """The rows of which the machine does otherwise that come of this one by one exchange, from the left."""
    told = []
    for at in range(len(row) - 1):
        if apart(sharing, row[at], row[at + 1]):
            other = exchanged(row, at)
            if lets_by(machine, row) != lets_by(machine, other):
                told.append(other)
    return told


def plain_notice(sharing, machine, most):
    """What is told of rows of at most so many letters, by going through all of them."""
    for row in rows_up_to(machine.letters, most):
        others = otherwise(sharing, machine, row)
        if others:
            return row, others[0]
    return None


def plain_first(sharing, machine):
    """The first pair told, by states: the least of all rows ahead, exchanges and rows behind, each first by order."""
    letters = machine.letters

    def behind(state, row):
        for letter in row:
            state = machine.table[state][letters.index(letter)]
        return state

    def first_rows(start):
        rows = {start: []}
        coming = [start]
        for thing in coming:
            for letter in letters:
                after = tuple([behind(state, [letter]) for state in thing])
                if after not in rows:
                    rows[after] = rows[thing] + [letter]
                    coming.append(after)
        return rows

    found = []
    for (state,), ahead in first_rows((0,)).items():
        for one, other in itertools.permutations(letters, 2):
            if not apart(sharing, one, other):
                continue
            pair = (behind(state, [one, other]), behind(state, [other, one]))
            for (left, right), tail in first_rows(pair).items():
                if (left in machine.good) != (right in machine.good):
                    found.append(ahead + [one, other] + tail)
    row = min(found, key=lambda told: (len(told), [letters.index(letter) for letter in told]))
    return row, otherwise(sharing, machine, row)[0]


def plain_free(machine):
    """The free pairs, by what rows do from each state to which rows lead, without least forms."""
    rows = list(rows_up_to(range(len(machine.letters)), len(machine.table)))

    def behind(state, row):
        for at in row:
            state = machine.table[state][at]
        return state

    told_of = [tuple([behind(state, row) in machine.good for row in rows]) for state in range(len(machine.table))]
    reached = sorted({behind(0, row) for row in rows})
    pairs = []
    for one, other in itertools.combinations(range(len(machine.letters)), 2):
        if all([told_of[behind(state, [one, other])] == told_of[behind(state, [other, one])] for state in reached]):
            pairs.append((machine.letters[one], machine.letters[other]))
    return pairs


def some_machine(chance, letters, most, share=0.4):
    many = chance.randint((most + 1) // 2, most)
    table = [[chance.randrange(many) for letter in letters] for state in range(many)]
    return Machine(list(letters), table, [state for state in range(many) if chance.random() < share])


def counts(letters, size, good):
    """A machine with as many states as pairs of counts: the first two letters count, each round and round."""
    states = list(itertools.product(range(size), repeat=2))
    table = []
    for one, other in states:
        steps = [((one + 1) % size, other), (one, (other + 1) % size)] + [(one, other)] * (len(letters) - 2)
        table.append([states.index(step) for step in steps])
    return Machine(list(letters), table, [states.index(state) for state in good])


class FreePairs(unittest.TestCase):
    def assert_pairs(self, machine, due):
        kept = fields(machine)
        for again in range(2):
            told = free_pairs(machine)
            self.assertEqual(told, due)
            self.assertIs(told.__class__, list)
            for pair in told:
                self.assertIs(pair.__class__, tuple)
        self.assertEqual(fields(machine), kept)

    def test_one_letter_has_none(self):
        self.assert_pairs(Machine(["a"], [[0]], [0]), [])
        self.assert_pairs(Machine(["a"], [[1], [0]], [0]), [])

    def test_none(self):
        # The last letter is kept in mind.
        self.assert_pairs(Machine(["a", "b"], [[0, 1], [0, 1]], [1]), [])
        # Each letter exchanges another two of three states.
        self.assert_pairs(Machine(["a", "b", "c"], [[1, 0, 2], [0, 2, 1], [2, 1, 0]], [0]), [])

    def test_one_of_three(self):
        # Good is behind one letter alone: the order of the others doesn't count.
        self.assert_pairs(Machine(["a", "b", "c"], [[1, 0, 0], [1, 0, 0]], [1]), [("b", "c")])
        self.assert_pairs(Machine(["a", "b", "c"], [[0, 1, 0], [0, 1, 0]], [1]), [("a", "c")])
        self.assert_pairs(Machine(["a", "b", "c"], [[0, 0, 1], [0, 0, 1]], [1]), [("a", "b")])

    def test_all(self):
        pairs = list(itertools.combinations("fbdace", 2))
        self.assert_pairs(Machine(list("fbdace"), [[0] * 6], [0]), pairs)
        self.assert_pairs(Machine(list("fbdace"), [[1] * 6, [2] * 6, [0] * 6], [0]), pairs)

    def test_some_in_the_machine_s_order(self):
        # z and a count, m ends all.
        table = [[1, 2, 3], [0, 2, 4], [2, 2, 2], [4, 2, 0], [3, 2, 1]]
        self.assert_pairs(Machine(["z", "m", "a"], table, [0]), [("z", "m"), ("z", "a"), ("m", "a")])
        self.assert_pairs(Machine(["z", "m", "a"], table, [2]), [("z", "m"), ("z", "a"), ("m", "a")])
        # b goes back to 0: it is free with none that counts.
        table = [[1, 0, 2], [0, 0, 3], [3, 0, 0], [2, 0, 1]]
        self.assert_pairs(Machine(["z", "b", "a"], table, [0]), [("z", "a")])
        self.assert_pairs(Machine(["b", "z", "a"], [[0, z, a] for z, b, a in table], [0]), [("z", "a")])
        self.assert_pairs(Machine(["a", "z", "b"], [[a, z, 0] for z, b, a in table], [0]), [("a", "z")])

    def test_sorted_by_places_not_by_names(self):
        table = [[0, 0, 0, 1], [1, 1, 1, 1]]
        due = [("d", "a"), ("d", "c"), ("d", "b"), ("a", "c"), ("a", "b"), ("c", "b")]
        self.assert_pairs(Machine(["d", "a", "c", "b"], table, [1]), due)

    def test_states_to_which_no_row_leads_do_not_count(self):
        # At state 1 the orders would differ, but no row leads there.
        machine = Machine(["a", "b"], [[0, 0], [2, 3], [2, 2], [3, 0]], [3])
        self.assert_pairs(machine, [("a", "b")])

    def test_alike_states_do_not_count(self):
        # a b leads to 3 and b a to 4, which are alike.
        table = [[1, 2], [1, 3], [4, 2], [3, 4], [4, 3]]
        self.assert_pairs(Machine(["a", "b"], table, [3, 4]), [("a", "b")])
        self.assert_pairs(Machine(["a", "b"], table, [3]), [])

    def test_both_orders_are_looked_at_at_each_state(self):
        # Only at the last state but two of a long chain the order counts.
        table = [[state, state, state + 1] for state in range(20)]
        ends = [[21, 20, 20], [21, 22, 20], [22, 22, 22]]
        self.assert_pairs(Machine(["a", "b", "go"], table + ends, [22]), [])
        machine = Machine(["a", "b", "go"], table + [[20, 20, 20]], [20])
        self.assert_pairs(machine, [("a", "b"), ("a", "go"), ("b", "go")])

    def test_held_against_rows(self):
        chance = random.Random(1)
        sizes = set()
        for number in range(300):
            letters = chance.choice([["b", "a"], ["c", "a", "b"], ["a", "b", "c"]])
            machine = some_machine(chance, letters, 4, chance.choice([0.2, 0.4, 0.6]))
            due = plain_free(machine)
            self.assert_pairs(machine, due)
            sizes.add((len(letters), len(due)))
        self.assertGreaterEqual(len(sizes), 5)

    def test_the_list_is_the_asker_s_own(self):
        machine = Machine(["a", "b"], [[0, 0]], [])
        told = free_pairs(machine)
        told.append(("b", "a"))
        self.assertEqual(free_pairs(machine), [("a", "b")])
        told.clear()
        self.assertEqual(free_pairs(machine), [("a", "b")])


class Notice(unittest.TestCase):
    def assert_notice(self, sharing, machine, one, other):
        kept = fields(machine), sharing.letters, sharing.desks
        for again in range(2):
            told = notice(sharing, machine)
            self.assertEqual(told, (one, other))
            self.assertIs(told.__class__, tuple)
            self.assertIs(told[0].__class__, list)
            self.assertIs(told[1].__class__, list)
        self.assertEqual((fields(machine), sharing.letters, sharing.desks), kept)

    def test_the_last_letter_is_kept_in_mind(self):
        sharing = Sharing([("a", ("x",)), ("b", ("y",))])
        self.assert_notice(sharing, Machine(["a", "b"], [[0, 1], [0, 1]], [1]), ["a", "b"], ["b", "a"])
        self.assert_notice(sharing, Machine(["a", "b"], [[0, 1], [0, 1]], [0]), ["a", "b"], ["b", "a"])
        sharing = Sharing([("b", ("x",)), ("a", ("y",))])
        self.assert_notice(sharing, Machine(["b", "a"], [[0, 1], [0, 1]], [1]), ["b", "a"], ["a", "b"])

    def test_letters_with_a_desk_in_common(self):
        machine = Machine(["a", "b"], [[0, 1], [0, 1]], [1])
        self.assertIsNone(notice(Sharing([("a", ("x",)), ("b", ("x",))]), machine))
        self.assertIsNone(notice(Sharing([("a", ("x", "y")), ("b", ("z", "y"))]), machine))

    def test_all_letters_apart_are_free(self):
        for size in (1, 2, 3):
            for good in ([(0, 0)], [(0, size - 1)], [(place, place) for place in range(size)]):
                machine = counts(["b", "a"], size, good)
                self.assertIsNone(notice(Sharing([("b", ("x",)), ("a", ("y",))]), machine))

    def test_alike_states_and_states_to_which_no_row_leads(self):
        sharing = Sharing([("a", ("x",)), ("b", ("y",))])
        table = [[1, 2], [1, 3], [4, 2], [3, 4], [4, 3]]
        self.assertIsNone(notice(sharing, Machine(["a", "b"], table, [3, 4])))
        self.assert_notice(sharing, Machine(["a", "b"], table, [3]), ["a", "b"], ["b", "a"])
        self.assertIsNone(notice(sharing, Machine(["a", "b"], [[0, 0], [2, 3], [2, 2], [3, 0]], [3])))

    def test_one_letter(self):
        self.assertIsNone(notice(Sharing([("a", ("x",))]), Machine(["a"], [[1], [0]], [1])))

    def test_none_good_and_all_good(self):
        sharing = Sharing([("a", ("x",)), ("b", ("y",)), ("c", ("z",))])
        for good in ([], [0, 1, 2]):
            self.assertIsNone(notice(sharing, Machine(["a", "b", "c"], [[0, 1, 2]] * 3, good)))

    def test_a_letter_ahead_and_one_behind(self):
        # c opens, then the order of a and b is kept in mind, then c shows it.
        table = [[0, 0, 1], [2, 3, 1], [2, 2, 4], [3, 3, 3], [4, 4, 4]]
        sharing = Sharing([("a", ("x",)), ("b", ("y",)), ("c", ("x", "y"))])
        due = (["c", "a", "b", "c"], ["c", "b", "a", "c"])
        self.assert_notice(sharing, Machine(["a", "b", "c"], table, [4]), *due)

    def test_a_letter_that_shows_it_is_none_of_those_exchanged(self):
        # The row a b is not parted from b a by itself; behind it c shows it, ahead of d.
        table = [[1, 2, 0, 0], [1, 1, 3, 3], [2, 2, 2, 2], [3, 3, 3, 3]]
        sharing = Sharing([("a", ("x",)), ("b", ("y",)), ("d", ("x", "y")), ("c", ("x", "y"))])
        self.assert_notice(sharing, Machine(["a", "b", "d", "c"], table, [3]), ["a", "b", "d"], ["b", "a", "d"])

    def test_no_shorter_row_is_noticed(self):
        sharing = Sharing([("a", ("x",)), ("b", ("y",)), ("c", ("z",))])
        chance = random.Random(2)
        for number in range(40):
            machine = some_machine(chance, ["a", "b", "c"], 3)
            told = notice(sharing, machine)
            if told is not None:
                for row in rows_up_to("abc", len(told[0]) - 1):
                    self.assertEqual(otherwise(sharing, machine, row), [])

    def test_the_first_exchange_from_the_left(self):
        found = 0
        chance = random.Random(3)
        sharing = Sharing([("b", ("x",)), ("a", ("y",))])
        for number in range(600):
            machine = some_machine(chance, ["b", "a"], 5)
            told = notice(sharing, machine)
            if told is not None:
                others = otherwise(sharing, machine, told[0])
                self.assertEqual(told[1], others[0])
                swaps = [at for at in range(len(told[0]) - 1) if told[0][at] != told[0][at + 1]]
                first = exchanged(told[0], swaps[0])
                found += len(others) > 1 or first != told[1]
        self.assertGreater(found, 5)

    def test_two_exchanges_that_show_by_unlike_letters(self):
        # Behind a b the next exchange shows by c, the one of a and b itself by an earlier letter.
        sharing = Sharing([("a", ("x",)), ("b", ("z",)), ("c", ("x",))])
        machine = Machine(["a", "b", "c"], [[1, 2, 1], [1, 0, 0], [1, 0, 1]], [2])
        self.assert_notice(sharing, machine, ["a", "b", "b"], ["b", "a", "b"])
        table = [[1, 0, 0], [2, 3, 4], [3, 0, 5], [5, 3, 2], [4, 0, 4], [3, 3, 4]]
        machine = Machine(["a", "b", "c"], table, [2, 4])
        self.assert_notice(sharing, machine, ["a", "b", "a"], ["b", "a", "a"])
        sharing = Sharing([("a", ("w",)), ("b", ("x",)), ("c", ("y",))])
        table = [[1, 1, 2], [1, 3, 4], [1, 1, 3], [4, 0, 1], [5, 0, 3], [6, 6, 6], [4, 6, 1]]
        machine = Machine(["a", "b", "c"], table, [0, 6])
        self.assert_notice(sharing, machine, ["a", "b", "b"], ["b", "a", "b"])

    def test_held_against_all_rows(self):
        chance = random.Random(4)
        told_lengths = []
        for number in range(400):
            letters = chance.choice([["b", "a"], ["c", "a", "b"], ["a", "b", "c"]])
            desks = ["x", "y", "z"]
            sharing = Sharing([
                (letter, tuple(chance.sample(desks, chance.choice([1, 1, 2])))) for letter in letters
            ])
            machine = some_machine(chance, letters, 3, chance.choice([0.3, 0.5]))
            # So many letters are enough with three states: two ahead, two exchanged, two behind.
            due = plain_notice(sharing, machine, 6)
            if due is None:
                self.assertIsNone(notice(sharing, machine))
            else:
                self.assert_notice(sharing, machine, *due)
                told_lengths.append(len(due[0]))
        self.assertGreater(told_lengths.count(2), 30)
        self.assertGreater(told_lengths.count(3), 10)

    def test_held_against_all_rows_with_more_states(self):
        chance = random.Random(5)
        sharing = Sharing([("b", ("x",)), ("a", ("y",))])
        lengths = set()
        for number in range(400):
            machine = some_machine(chance, ["b", "a"], 6, 0.25)
            due = plain_notice(sharing, machine, 8)
            if due is not None:
                self.assert_notice(sharing, machine, *due)
                lengths.add(len(due[0]))
            else:
                told = notice(sharing, machine)
                self.assertTrue(told is None or len(told[0]) > 8)
        self.assertGreaterEqual(lengths, {2, 3, 4})

    def test_held_against_the_least_of_all_parts(self):
        chance = random.Random(7)
        for number in range(40):
            letters = chance.choice([["c", "a", "b"], ["d", "a", "c", "b"]])
            desks = ["x", "y", "z"]
            sharing = Sharing([(letter, tuple(chance.sample(desks, chance.choice([1, 2])))) for letter in letters])
            machine = some_machine(chance, letters, 8, 0.2)
            if notice(sharing, machine) is not None:
                self.assert_notice(sharing, machine, *plain_first(sharing, machine))

    def test_just_where_two_letters_apart_are_not_free(self):
        chance = random.Random(6)
        both = set()
        for number in range(300):
            letters = chance.choice([["b", "a"], ["c", "a", "b"]])
            desks = ["x", "y"]
            sharing = Sharing([(letter, tuple(chance.sample(desks, chance.choice([1, 1, 2])))) for letter in letters])
            machine = some_machine(chance, letters, 4)
            free = free_pairs(machine)
            due = any([apart(sharing, *pair) and pair not in free for pair in itertools.combinations(letters, 2)])
            self.assertIs(notice(sharing, machine) is not None, due)
            both.add(due)
        self.assertEqual(both, {True, False})

    def test_a_long_first_row(self):
        # go leads on, one by one; only behind 20 of them the order of a and b counts.
        table = [[state, state, state + 1] for state in range(20)]
        table += [[21, 22, 20], [21, 21, 23], [22, 22, 22], [23, 23, 23]]
        sharing = Sharing([("a", ("x",)), ("b", ("y",)), ("go", ("x", "y"))])
        machine = Machine(["a", "b", "go"], table, [23])
        go = ["go"] * 20
        self.assert_notice(sharing, machine, go + ["a", "b", "go"], go + ["b", "a", "go"])

    def test_a_long_row_behind_the_exchange(self):
        # a b leads to 3, b a to 4: both go round, and it is long until just one is good.
        table = [[1, 2, 0], [1, 3, 1], [4, 2, 2]]
        table += [[3, 3, 4]] + [[state, state, min(state + 1, 22)] for state in range(4, 23)]
        sharing = Sharing([("a", ("x",)), ("b", ("y",)), ("go", ("x", "y"))])
        machine = Machine(["a", "b", "go"], table, [22])
        go = ["go"] * 18
        self.assert_notice(sharing, machine, ["a", "b"] + go, ["b", "a"] + go)

    def test_a_row_of_more_than_thirty_letters(self):
        # Twelve go ahead of the exchange; behind it two tails of unlike length.
        table = [[state, state, state + 1] for state in range(12)]
        table += [[13, 14, 12], [13, 15, 13], [16, 14, 14]]
        table += [[15, 15, 16]] + [[state, state, min(state + 1, 23)] for state in range(16, 24)]
        sharing = Sharing([("a", ("x",)), ("b", ("y",)), ("go", ("x", "y"))])
        machine = Machine(["a", "b", "go"], table, [23])
        go = ["go"] * 12
        tail = ["go"] * 7
        self.assert_notice(sharing, machine, go + ["a", "b"] + tail, go + ["b", "a"] + tail)

    def test_24_states_of_which_none_is_noticed(self):
        states = list(itertools.product(range(4), range(6)))
        table = []
        for one, other in states:
            table.append([states.index(((one + 1) % 4, other)), states.index((one, (other + 1) % 6)), 0])
        machine = Machine(["b", "a", "all"], table, [23])
        sharing = Sharing([("b", ("x",)), ("a", ("y",)), ("all", ("x", "y"))])
        self.assertIsNone(notice(sharing, machine))
        # Where all is done by one desk, it is not free with the other's letter.
        sharing = Sharing([("b", ("x",)), ("a", ("y",)), ("all", ("x",))])
        due = plain_first(sharing, machine)
        self.assert_notice(sharing, machine, *due)

    def test_the_lists_are_the_asker_s_own(self):
        sharing = Sharing([("a", ("x",)), ("b", ("y",))])
        machine = Machine(["a", "b"], [[0, 1], [0, 1]], [1])
        one, other = notice(sharing, machine)
        self.assertIsNot(one, other)
        one.append("a")
        other.clear()
        self.assert_notice(sharing, machine, ["a", "b"], ["b", "a"])


class RefusedOtherLetters(unittest.TestCase):
    def assert_other_letters(self, first, second):
        for told, held in ((first, second), (second, first)):
            sharing = Sharing([(letter, ("x",)) for letter in told])
            machine = Machine(list(held), [[0] * len(held)], [0])
            for again in range(2):
                with self.assertRaises(MeetError) as taken:
                    notice(sharing, machine)
                self.assertIs(taken.exception.__class__, OtherLetters)

    def test_another_order_of_the_same(self):
        self.assert_other_letters("ab", "ba")
        self.assert_other_letters("abc", "acb")
        self.assert_other_letters("abcdef", "bacdef")

    def test_one_more_and_one_fewer(self):
        self.assert_other_letters("a", "ab")
        self.assert_other_letters("abc", "ab")
        self.assert_other_letters("abc", "bc")
        self.assert_other_letters("abc", "ac")

    def test_another_name(self):
        self.assert_other_letters("a", "b")
        self.assert_other_letters("abc", "abd")
        self.assert_other_letters(["a", "b"], ["a", "bb"])

    def test_also_where_it_would_be_noticed(self):
        sharing = Sharing([("a", ("x",)), ("b", ("y",))])
        with self.assertRaises(OtherLetters):
            notice(sharing, Machine(["b", "a"], [[0, 1], [0, 1]], [1]))

    def test_the_same_are_let_by(self):
        self.assertIsNone(notice(Sharing([("b", ("x",)), ("a", ("x",))]), Machine(["b", "a"], [[0, 0]], [0])))


if __name__ == "__main__":
    unittest.main()
