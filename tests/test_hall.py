"""Halls: points 2, 3, 7, 17, 21 to 24 and 26 to 28, and the interface's meetdesks/hall.py."""

import itertools
import random
import unittest

from meetdesks.books import Book
from meetdesks.errors import NoDesk, NoLetter, Notices, OtherLetters
from meetdesks.hall import Hall
from meetdesks.least import least
from meetdesks.machine import Machine, lets_by
from meetdesks.maps import along
from meetdesks.news import News
from meetdesks.notice import notice
from meetdesks.sharing import Sharing
from plain import (
    ALONE, FULL, HOUSES, LINE, PAIR, RING, Past, RefusalCase, book_fields, desks_of, fields, known_letters,
    letters_of, past_of, plain_run, rows_up_to, sets_in, shuffled, some_quiet_machine, some_row, some_sharing,
)


def counter(letters, many, good):
    return Machine(list(letters), [[(state + 1) % many] * len(letters) for state in range(many)], good)


def hall_of(rows, machine, row):
    hall = Hall(Sharing(list(rows)), machine)
    for letter in row:
        hall.do(letter)
    return hall


def all_answers(hall, desks):
    """Whatever a hall tells, to be held against what it tells later."""
    groups = [group for group in sets_in(desks) if group]
    return (
        fields(hall.machine),
        hall.lets_by(),
        [hall.stands(list(group)) for group in groups],
        [hall.sure(list(group)) for group in groups],
        [hall.newer(*three) for three in itertools.product(desks, repeat=3)],
        [book_fields(hall.book(desk)) for desk in desks],
    )


class Made(RefusalCase):
    def test_the_least_form_is_kept(self):
        machine = Machine(["m", "b", "a"], [[2, 0, 0], [1, 1, 1], [3, 2, 2], [2, 3, 3]], [2, 1, 3])
        hall = Hall(Sharing(list(PAIR)), machine)
        self.assertIsInstance(hall.machine, Machine)
        self.assertEqual(fields(hall.machine), (("m", "b", "a"), ((1, 0, 0), (1, 1, 1)), (1,)))
        self.assertEqual(len(machine.table), 4)

    def test_the_books_behind_the_opening(self):
        for rows in HOUSES:
            hall = Hall(Sharing(list(rows)), counter(letters_of(rows), 3, [0]))
            for desk in desks_of(rows):
                book = hall.book(desk)
                self.assertIsInstance(book, Book)
                self.assertIsInstance(book.news, News)
                self.assertEqual(set(book.news.labels.values()), {("", 0)})
                self.assertEqual(set(book.maps.values()), {(0, 1, 2)})
            self.assertIs(hall.lets_by(), True)

    def test_other_letters(self):
        sharing = Sharing(list(PAIR))
        for letters in itertools.permutations("mba"):
            if letters != ("m", "b", "a"):
                self.assert_refused(OtherLetters, {}, Hall, sharing, counter(letters, 2, [0]))
        for letters in (["m"], ["m", "b"], ["m", "b", "a", "c"], ["x", "y"], ["m", "b", "c"]):
            self.assert_refused(OtherLetters, {}, Hall, sharing, counter(letters, 2, [0]))

    def test_notices_with_both_rows(self):
        sharing = Sharing(list(PAIR))
        # The last of a and b is kept in mind; they are apart.
        last = Machine(["m", "b", "a"], [[0, 1, 2], [1, 1, 2], [2, 1, 2]], [1])
        self.assert_refused(Notices, {"one": ["b", "a"], "other": ["a", "b"]}, Hall, sharing, last)
        late = Machine(["m", "b", "a"], [[1, 0, 0], [1, 2, 3], [2, 2, 2], [3, 3, 3]], [2])
        self.assert_refused(Notices, {"one": ["m", "b", "a"], "other": ["m", "a", "b"]}, Hall, sharing, late)

    def test_the_very_rows_that_notice_tells(self):
        chance = random.Random(1)
        made, refused = 0, 0
        for turn in range(300):
            rows = list(LINE) if turn % 2 else some_sharing(chance, most_letters=3, most_desks=3)
            many = chance.randint(1, 4)
            table = [[chance.randrange(many) for letter in rows] for state in range(many)]
            good = [state for state in range(many) if chance.random() < 0.5]
            sharing, machine = Sharing(rows), Machine(letters_of(rows), table, good)
            due = notice(sharing, machine)
            if due is None:
                hall = Hall(sharing, machine)
                self.assertEqual(fields(hall.machine), fields(least(machine)))
                made += 1
            else:
                self.assert_refused(Notices, {"one": due[0], "other": due[1]}, Hall, sharing, machine)
                refused += 1
        self.assertGreater(min(made, refused), 50)

    def test_other_letters_ahead_of_notices(self):
        sharing = Sharing(list(PAIR))
        last = Machine(["m", "a", "b"], [[0, 1, 2], [1, 1, 2], [2, 1, 2]], [1])
        self.assert_refused(OtherLetters, {}, Hall, sharing, last)
        self.assert_refused(OtherLetters, {}, Hall, sharing, Machine(["b", "a"], [[1, 0], [1, 0]], [1]))

    def test_what_is_handed_in_stays(self):
        sharing, machine = Sharing(list(PAIR)), counter("mba", 6, [0, 3])
        kept = fields(machine)
        hall = Hall(sharing, machine)
        hall.do("m")
        self.assertEqual(fields(machine), kept)
        self.assertEqual((sharing.letters, sharing.desks), (("m", "b", "a"), ("x", "y")))
        self.assertEqual(len(hall.machine.table), 3)


class Done(RefusalCase):
    def assert_hall(self, hall, past):
        for desk in past.desks:
            book = hall.book(desk)
            self.assertEqual(book.news.desks, tuple(past.desks))
            self.assertEqual(book.news.labels, past.label_news(desk))
            for some in sets_in(past.desks):
                self.assertEqual(book.maps[some], along(hall.machine, past.row, past.left_of(desk, some)))

    def test_labels_and_books_behind_each_letter(self):
        chance = random.Random(2)
        for rows in HOUSES:
            hall, past = Hall(Sharing(list(rows)), some_quiet_machine(chance, rows)), Past(rows)
            for letter in some_row(chance, rows, 45):
                told = hall.do(letter)
                self.assertIs(told.__class__, tuple)
                self.assertEqual(told, past.do(letter))
                self.assert_hall(hall, past)

    def test_the_others_books_stay(self):
        chance = random.Random(3)
        for rows in HOUSES:
            hall = Hall(Sharing(list(rows)), some_quiet_machine(chance, rows))
            for letter in some_row(chance, rows, 20):
                others = [desk for desk in desks_of(rows) if desk not in dict(rows)[letter]]
                kept = [book_fields(hall.book(desk)) for desk in others]
                hall.do(letter)
                self.assertEqual([book_fields(hall.book(desk)) for desk in others], kept)

    def test_long_runs(self):
        chance = random.Random(4)
        for rows in HOUSES:
            machine = some_quiet_machine(chance, rows)
            hall = Hall(Sharing(list(rows)), machine)
            state, most = 0, len(desks_of(rows)) ** 3
            for letter in some_row(chance, rows, 1500):
                label = hall.do(letter)
                self.assertEqual(label[0], letter)
                self.assertLessEqual(label[1], most)
                state = machine.table[state][machine.letters.index(letter)]
            self.assertIs(hall.lets_by(), state in machine.good)

    def test_strange_letters_change_nothing(self):
        chance = random.Random(5)
        for rows in HOUSES:
            hall = hall_of(rows, some_quiet_machine(chance, rows), some_row(chance, rows, 15))
            kept = all_answers(hall, desks_of(rows))
            for letter in ("strange", "", "zz", "Z"):
                self.assert_refused(NoLetter, {"letter": letter}, hall.do, letter)
            self.assertEqual(all_answers(hall, desks_of(rows)), kept)


class Stands(RefusalCase):
    def test_every_group(self):
        chance = random.Random(6)
        for rows in HOUSES:
            machine = some_quiet_machine(chance, rows)
            hall, past = Hall(Sharing(list(rows)), machine), Past(rows)
            for letter in some_row(chance, rows, 40):
                hall.do(letter)
                past.do(letter)
                for group in sets_in(past.desks)[1:]:
                    told = hall.stands(list(group))
                    self.assertIs(told.__class__, int)
                    letters = known_letters(past, group)
                    self.assertEqual(told, plain_run(least(machine), letters), (past.row, group))
                    # In any order that keeps the history.
                    other = shuffled(chance, rows, letters, 20)
                    self.assertEqual(told, plain_run(least(machine), other))

    def test_many_sharings(self):
        chance = random.Random(7)
        for turn in range(80):
            rows = some_sharing(chance, most_letters=6)
            machine, row = some_quiet_machine(chance, rows), some_row(chance, rows, 25)
            hall, past = hall_of(rows, machine, row), past_of(rows, row)
            for group in sets_in(past.desks)[1:]:
                self.assertEqual(hall.stands(list(group)), plain_run(hall.machine, known_letters(past, group)))

    def test_any_order_and_a_desk_twice(self):
        chance = random.Random(8)
        for rows in (LINE, RING, FULL):
            hall = hall_of(rows, counter(letters_of(rows), 24, [0]), some_row(chance, rows, 20))
            for some in sets_in(desks_of(rows))[1:]:
                due = hall.stands(list(some))
                for group in itertools.permutations(some):
                    self.assertEqual(hall.stands(list(group)), due)
                    self.assertEqual(hall.stands(list(group) * 2), due)
                    self.assertEqual(hall.stands([group[0]] * 4 + list(group)), due)

    def test_behind_the_opening(self):
        for rows in HOUSES:
            hall = Hall(Sharing(list(rows)), counter(letters_of(rows), 2, [1]))
            for group in sets_in(desks_of(rows))[1:]:
                self.assertEqual(hall.stands(list(group)), 0)

    def test_the_group_handed_in_stays(self):
        hall = hall_of(LINE, counter("zmaby", 5, [0]), ["z", "m"])
        group = ["s", "p", "s"]
        hall.stands(group)
        hall.sure(group)
        self.assertEqual(group, ["s", "p", "s"])


class LetsBy(RefusalCase):
    def test_held_against_the_machine(self):
        chance = random.Random(9)
        both = set()
        for rows in HOUSES:
            for turn in range(4):
                machine = some_quiet_machine(chance, rows)
                hall, row = Hall(Sharing(list(rows)), machine), []
                self.assertIs(hall.lets_by(), lets_by(machine, []))
                for letter in some_row(chance, rows, 30):
                    hall.do(letter)
                    row.append(letter)
                    self.assertIs(hall.lets_by(), lets_by(machine, row), row)
                    both.add(hall.lets_by())
        self.assertEqual(both, {True, False})

    def test_all_short_rows(self):
        chance = random.Random(10)
        for rows, most in ((ALONE, 5), (PAIR, 5), (LINE, 3), (RING, 5)):
            machine = some_quiet_machine(chance, rows)
            for row in rows_up_to(letters_of(rows), most):
                self.assertIs(hall_of(rows, machine, row).lets_by(), lets_by(machine, row), row)


class Sure(RefusalCase):
    def plain_sure(self, machine, rows, past, group):
        """By all rows of the others' letters, as long as the machine has states."""
        others = [letter for letter, desks in rows if not set(desks) & set(group)]
        known = known_letters(past, group)
        told = {lets_by(machine, known + row) for row in rows_up_to(others, len(machine.table) - 1)}
        return {(True,): "yes", (False,): "no"}.get(tuple(told), "open")

    def test_held_against_all_rows(self):
        chance = random.Random(11)
        seen = {}
        for turn in range(120):
            rows = some_sharing(chance, most_letters=4)
            machine = least(some_quiet_machine(chance, rows, sizes=(1, 1, 2), most=4))
            if turn % 3 == 0:
                # Of few good states, so that a group may be sure.
                machine = least(Machine(list(machine.letters), [list(steps) for steps in machine.table], [0]))
            hall, past = Hall(Sharing(rows), machine), Past(rows)
            for letter in some_row(chance, rows, 8):
                hall.do(letter)
                past.do(letter)
                for group in sets_in(past.desks)[1:]:
                    told = hall.sure(list(group))
                    self.assertEqual(told, self.plain_sure(machine, rows, past, group), (rows, past.row, group))
                    seen[told] = seen.get(told, 0) + (len(machine.table) > 1)
        self.assertEqual(set(seen), {"yes", "no", "open"})
        self.assertGreater(min(seen.values()), 100)

    def test_yes_no_and_open(self):
        # a counts to one at x, b to one at y; good is where b was done.
        rows = [("a", ("x",)), ("b", ("y",))]
        hall = Hall(Sharing(rows), Machine(["a", "b"], [[0, 1], [1, 1]], [1]))
        self.assertEqual((hall.sure(["x"]), hall.sure(["y"]), hall.sure(["x", "y"])), ("open", "no", "no"))
        hall.do("a")
        self.assertEqual((hall.sure(["x"]), hall.sure(["y"])), ("open", "no"))
        hall.do("b")
        self.assertEqual((hall.sure(["x"]), hall.sure(["y"]), hall.sure(["y", "x"])), ("open", "yes", "yes"))

    def test_letters_that_are_done_or_not(self):
        # The state of the group itself counts: others may do nothing.
        rows = [("a", ("x",)), ("b", ("y",))]
        hall = Hall(Sharing(rows), Machine(["a", "b"], [[0, 1], [1, 1]], [0]))
        self.assertEqual(hall.sure(["x"]), "open")
        self.assertEqual(hall.sure(["y"]), "yes")
        hall.do("b")
        self.assertEqual(hall.sure(["y"]), "no")
        self.assertEqual(hall.sure(["x"]), "open")

    def test_more_than_one_letter_of_the_others(self):
        # Only behind two of b it is not let by.
        rows = [("a", ("x",)), ("b", ("y",))]
        hall = Hall(Sharing(rows), Machine(["a", "b"], [[0, 1], [1, 2], [2, 2]], [0, 1]))
        self.assertEqual(hall.sure(["x"]), "open")
        self.assertEqual(hall.sure(["y"]), "yes")

    def test_a_letter_at_which_one_of_the_group_meets_is_not_the_others(self):
        hall = Hall(Sharing([("m", ("y", "x"))]), Machine(["m"], [[1], [0]], [0]))
        for group in (["x"], ["y"], ["x", "y"]):
            self.assertEqual(hall.sure(group), "yes")
        hall.do("m")
        for group in (["x"], ["y"], ["y", "x", "y"]):
            self.assertEqual(hall.sure(group), "no")

    def test_any_order_and_a_desk_twice(self):
        chance = random.Random(12)
        for rows in (LINE, RING, FULL):
            hall = hall_of(rows, some_quiet_machine(chance, rows), some_row(chance, rows, 20))
            for some in sets_in(desks_of(rows))[1:]:
                for group in itertools.permutations(some):
                    self.assertEqual(hall.sure(list(group) * 2), hall.sure(list(some)))

    def test_what_a_group_is_sure_of_holds_whatever_the_others_do(self):
        chance = random.Random(13)
        sure = 0
        for turn in range(60):
            rows = some_sharing(chance)
            hall = hall_of(rows, some_quiet_machine(chance, rows), some_row(chance, rows, 12))
            for group in sets_in(desks_of(rows))[1:]:
                told = hall.sure(list(group))
                others = [letter for letter, desks in rows if not set(desks) & set(group)]
                twin = hall.twin()
                for place in range(15 if others else 0):
                    if told != "open":
                        self.assertEqual(twin.lets_by(), told == "yes")
                        sure += 1
                    twin.do(chance.choice(others))
        self.assertGreater(sure, 100)


class Newer(RefusalCase):
    def test_all_three_desks(self):
        chance = random.Random(14)
        for rows in HOUSES:
            hall, past = Hall(Sharing(list(rows)), some_quiet_machine(chance, rows)), Past(rows)
            for letter in some_row(chance, rows, 50):
                hall.do(letter)
                past.do(letter)
                for one, other, desk in itertools.product(past.desks, repeat=3):
                    told = hall.newer(one, other, desk)
                    self.assertIs(told.__class__, int)
                    self.assertEqual(told, past.newer(one, other, desk), (past.row, one, other, desk))

    def test_alike_ones(self):
        hall = hall_of(LINE, counter("zmaby", 2, [0]), ["z", "m", "b", "z"])
        for one, desk in itertools.product("pqrs", repeat=2):
            self.assertEqual(hall.newer(one, one, desk), 0)
        self.assertEqual(hall.newer("p", "q", "p"), 0)
        self.assertEqual(hall.newer("p", "r", "p"), 1)
        self.assertEqual(hall.newer("r", "p", "p"), -1)


class Refused(RefusalCase):
    def test_strange_desks(self):
        chance = random.Random(15)
        for rows in HOUSES:
            desks = desks_of(rows)
            hall = hall_of(rows, some_quiet_machine(chance, rows), some_row(chance, rows, 12))
            kept = all_answers(hall, desks)
            self.assert_refused(NoDesk, {"desk": "strange"}, hall.book, "strange")
            self.assert_refused(NoDesk, {"desk": ""}, hall.book, "")
            for at in range(8):
                group = [chance.choice(desks) for place in range(8)]
                group[at] = "strange"
                self.assert_refused(NoDesk, {"desk": "strange"}, hall.stands, group)
                self.assert_refused(NoDesk, {"desk": "strange"}, hall.sure, group)
                if at < 7:
                    group[7] = "another"
                    self.assert_refused(NoDesk, {"desk": "strange"}, hall.stands, group)
                    self.assert_refused(NoDesk, {"desk": "strange"}, hall.sure, group)
            self.assertEqual(all_answers(hall, desks), kept)

    def test_strange_desks_of_newer(self):
        hall = hall_of(LINE, counter("zmaby", 2, [0]), ["z", "m"])
        kept = all_answers(hall, "pqrs")
        for at in range(3):
            three = ["p", "q", "r"]
            three[at] = "k"
            self.assert_refused(NoDesk, {"desk": "k"}, hall.newer, *three)
        self.assert_refused(NoDesk, {"desk": "a"}, hall.newer, "a", "b", "c")
        self.assert_refused(NoDesk, {"desk": "b"}, hall.newer, "p", "b", "c")
        self.assert_refused(NoDesk, {"desk": "a"}, hall.newer, "a", "p", "c")
        self.assert_refused(NoDesk, {"desk": "k"}, hall.newer, "k", "k", "p")
        self.assertEqual(all_answers(hall, "pqrs"), kept)

    def test_letters_are_no_desks(self):
        hall = hall_of(LINE, counter("zmaby", 2, [0]), ["z"])
        self.assert_refused(NoDesk, {"desk": "z"}, hall.stands, ["p", "z"])
        self.assert_refused(NoLetter, {"letter": "p"}, hall.do, "p")


class Own(RefusalCase):
    def test_books_that_were_told_are_changed(self):
        chance = random.Random(16)
        for rows in HOUSES:
            machine, row = some_quiet_machine(chance, rows), some_row(chance, rows, 20)
            hall, past = Hall(Sharing(list(rows)), machine), Past(rows)
            for letter in row:
                for desk in past.desks:
                    book = hall.book(desk)
                    kept = book_fields(book)
                    book.news.labels[(desk, desk, desk)] = ("strange", 5)
                    book.maps[()] = (0,) * len(hall.machine.table)
                    self.assertEqual(book_fields(hall.book(desk)), kept)
                    book.news.labels.clear()
                    book.maps.clear()
                    self.assertEqual(book_fields(hall.book(desk)), kept)
                self.assertEqual(hall.do(letter), past.do(letter))
            self.assertEqual(all_answers(hall, past.desks), all_answers(hall_of(rows, machine, row), past.desks))

    def test_a_book_that_was_told_stays(self):
        hall = Hall(Sharing(list(PAIR)), counter("mba", 3, [0]))
        book = hall.book("x")
        kept = book_fields(book)
        hall.do("m")
        hall.do("a")
        self.assertEqual(book_fields(book), kept)
        self.assertNotEqual(book_fields(hall.book("x")), kept)

    def test_one_meeting_s_books_are_the_desks_own(self):
        hall = hall_of(PAIR, counter("mba", 3, [0]), ["m"])
        mine = hall.book("x")
        self.assertEqual(book_fields(mine), book_fields(hall.book("y")))
        mine.maps.clear()
        mine.news.labels.clear()
        self.assertEqual(hall.book("y").maps[()], (1, 2, 0))
        self.assertIsNot(hall.book("y"), hall.book("y"))


class Twins(RefusalCase):
    def test_it_stands_as_the_hall_does(self):
        chance = random.Random(17)
        for rows in HOUSES:
            hall = hall_of(rows, some_quiet_machine(chance, rows), some_row(chance, rows, 20))
            twin = hall.twin()
            self.assertIsInstance(twin, Hall)
            self.assertIsNot(twin, hall)
            self.assertEqual(all_answers(twin, desks_of(rows)), all_answers(hall, desks_of(rows)))

    def test_each_goes_its_own_way(self):
        chance = random.Random(18)
        for rows in HOUSES:
            machine = some_quiet_machine(chance, rows)
            ways = [some_row(chance, rows, 12)]
            halls = [hall_of(rows, machine, ways[0])]
            for turn in range(4):
                # Twins, and twins of twins.
                which = chance.randrange(len(halls))
                halls.append(halls[which].twin())
                ways.append(list(ways[which]))
                for step in range(15):
                    at, letter = chance.randrange(len(halls)), chance.choice(letters_of(rows))
                    halls[at].do(letter)
                    ways[at].append(letter)
            for hall, row in zip(halls, ways):
                due = hall_of(rows, machine, row)
                self.assertEqual(all_answers(hall, desks_of(rows)), all_answers(due, desks_of(rows)))
                self.assertIs(hall.lets_by(), lets_by(machine, row))

    def test_refused_deeds_of_a_twin(self):
        hall = hall_of(LINE, counter("zmaby", 4, [0]), ["z", "m"])
        twin = hall.twin()
        self.assert_refused(NoLetter, {"letter": "k"}, twin.do, "k")
        self.assert_refused(NoDesk, {"desk": "k"}, twin.stands, ["k"])
        self.assertEqual(all_answers(twin, "pqrs"), all_answers(hall, "pqrs"))


class TwoHalls(RefusalCase):
    def test_of_one_sharing_and_machine(self):
        sharing, machine = Sharing(list(PAIR)), counter("mba", 3, [0])
        one, other = Hall(sharing, machine), Hall(sharing, machine)
        one.do("m")
        self.assertEqual(other.stands(["x"]), 0)
        self.assertEqual(other.do("m"), ("m", 0))
        self.assertEqual(one.do("m"), ("m", 1))
        self.assertIs(one.lets_by(), False)

    def test_one_history_leaves_the_very_same_books(self):
        chance = random.Random(19)
        unlike = 0
        for rows in HOUSES:
            machine = some_quiet_machine(chance, rows)
            row = some_row(chance, rows, 30)
            other = shuffled(chance, rows, row, 300)
            unlike += row != other
            one, two = hall_of(rows, machine, row), hall_of(rows, machine, other)
            self.assertEqual(all_answers(one, desks_of(rows)), all_answers(two, desks_of(rows)))
        self.assertGreaterEqual(unlike, 4)


if __name__ == "__main__":
    unittest.main()
