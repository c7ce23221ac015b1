"""Counts, promises [12] to [15], [6], [7] and [8]."""

import itertools
import random
import unittest

from causehall.counts import Counts, all_joined
from causehall.errors import NoCounts, NoMember, NoNumber, Unlike
from tests.support import (BIG, HallCase, counts_of, is_number, no_counts, no_hall_sizes, no_members, odd_but,
                           odd_things)

ROWS = [(0, 0), (2, 0), (0, 2), (1, 2, 3), (0, 0, 0), (5, 4, 3, 2), (0, 1, 2, 3, 4), (BIG, 0, BIG - 1)]


def is_row(thing):
    """Whether Counts can be made of the thing, told without the program."""
    return isinstance(thing, (list, tuple)) and 2 <= len(thing) <= 5 and all(is_number(n, 0) for n in thing)


def are_right_changes(thing, members):
    """Whether the thing is a list of changes, told without the program."""
    if not isinstance(thing, (list, tuple)):
        return False
    for change in thing:
        if type(change) is not tuple or len(change) != 2:
            return False
        if not is_number(change[0], 0, members - 1) or not is_number(change[1], 0):
            return False
    return len({change[0] for change in thing}) == len(thing)


def small_rows(members, highest=2):
    """All rows of so many members with numbers up to the highest."""
    return list(itertools.product(range(highest + 1), repeat=members))


class Making(HallCase):

    def test_of_a_list_and_of_a_tuple(self):
        for row in ROWS:
            self.same(Counts(row).told(), row)
            self.same(Counts(list(row)).told(), row)
            self.assertEqual(Counts(row), Counts(list(row)))
        self.same(Counts(numbers=[1, 2]).told(), (1, 2))

    def test_one_six_none(self):
        for numbers in [[], [0], [7], [0] * 6, [1, 2, 3, 4, 5, 6], (), (0,), (0,) * 6]:
            self.refuses(NoCounts, numbers, Counts, numbers)
        for many in range(2, 6):
            self.same(Counts([0] * many).told(), (0,) * many)

    def test_wrong_number_at_any_place(self):
        for wrong in odd_but(lambda thing: is_number(thing, 0)):
            for many in range(2, 6):
                for place in range(many):
                    numbers = [1] * many
                    numbers[place] = wrong
                    self.refuses(NoCounts, numbers, Counts, numbers)
                    self.refuses(NoCounts, numbers, Counts, numbers=numbers)

    def test_no_list(self):
        for thing in odd_but(is_row):
            self.refuses(NoCounts, thing, Counts, thing)
        for thing in [counts_of(1, 2), "12", {0: 1, 1: 2}, [counts_of(1, 2), counts_of(1, 2)]]:
            self.refuses(NoCounts, thing, Counts, thing)

    def test_refusal_holds_the_very_list(self):
        numbers = [1, -1]
        refusal = self.refusal(NoCounts, Counts, numbers)
        numbers.append(3)
        self.assertEqual(refusal.found, [1, -1, 3])

    def test_list_changed_afterwards(self):
        numbers = [1, 2, 3]
        counts = Counts(numbers)
        numbers[0] = 9
        numbers.append(4)
        self.same(counts.told(), (1, 2, 3))
        self.assertEqual(len(counts), 3)
        self.assertEqual(numbers, [9, 2, 3, 4])


class Telling(HallCase):

    def test_of_each_member(self):
        for row in ROWS:
            counts = Counts(row)
            for member, number in enumerate(row):
                self.same(counts.of(member), number)
                self.same(counts.of(member=member), number)

    def test_of_no_member(self):
        for row in ROWS:
            for thing in [True, False, -1, len(row), len(row) + 1, BIG, "0", None, (0,), [0], *no_members(len(row))]:
                self.refuses(NoMember, thing, Counts(row).of, thing)

    def test_sum(self):
        for row in ROWS:
            self.same(Counts(row).sum_of(), sum(row))

    def test_len(self):
        for row in ROWS:
            self.same(len(Counts(row)), len(row))

    def test_texts(self):
        self.same(str(counts_of(2, 0, 1)), "2 0 1")
        self.same(repr(counts_of(2, 0, 1)), "Counts(2, 0, 1)")
        self.same(str(counts_of(0, 0)), "0 0")
        self.same(repr(counts_of(0, 10)), "Counts(0, 10)")
        self.same(str(counts_of(BIG, 0, 1, 2, 30)), "9" * 30 + " 0 1 2 30")
        self.same(repr(counts_of(BIG, 0, 1, 2, 30)), "Counts(" + "9" * 30 + ", 0, 1, 2, 30)")

    def test_equal(self):
        for row in ROWS:
            for other in ROWS:
                self.assertIs(Counts(row) == Counts(other), row == other)
                self.assertIs(Counts(row) != Counts(other), row != other)
        self.assertIs(counts_of(1, 2) == counts_of(2, 1), False)
        self.assertIs(counts_of(1, 2) == counts_of(1, 2, 0), False)
        self.assertIs(counts_of(0, 0, 0) == counts_of(0, 0), False)

    def test_equal_to_no_other_thing(self):
        counts = counts_of(0, 1)
        for thing in [(0, 1), [0, 1], "0 1", "Counts(0, 1)", 1, None, {0: 0, 1: 1}, *no_counts()]:
            self.assertIs(counts == thing, False)
            self.assertIs(thing == counts, False)
            self.assertIs(counts != thing, True)


class Pairs(HallCase):

    def check_pair(self, one, other):
        """All of [13] of two rows, this way round."""
        these, those = Counts(one), Counts(other)
        self.same(these.joined(those), Counts([max(pair) for pair in zip(one, other)]))
        self.same(these.common(those), Counts([min(pair) for pair in zip(one, other)]))
        covers = all(a >= b for a, b in zip(one, other))
        covered = all(b >= a for a, b in zip(one, other))
        self.assertIs(these.covers(those), covers)
        word = {(True, True): "same", (False, True): "ahead", (True, False): "behind", (False, False): "beside"}
        self.same(these.stands_to(those), word[covers, covered])
        self.same(these.told(), one)
        self.same(those.told(), other)

    def test_all_small_ones_both_ways(self):
        for members, highest in [(2, 3), (3, 2)]:
            for one in small_rows(members, highest):
                for other in small_rows(members, highest):
                    self.check_pair(one, other)

    def test_greater_ones(self):
        chance = random.Random(13)
        for _ in range(300):
            members = chance.randint(2, 5)
            rows = [tuple(chance.choice([0, 1, 5, 30, BIG]) for _ in range(members)) for _ in range(2)]
            self.check_pair(rows[0], rows[1])
            self.check_pair(rows[1], rows[0])

    def test_plain_cases(self):
        self.same(counts_of(1, 3).joined(counts_of(2, 0)).told(), (2, 3))
        self.same(counts_of(1, 3).common(counts_of(2, 0)).told(), (1, 0))
        self.assertIs(counts_of(1, 3).covers(counts_of(1, 2)), True)
        self.assertIs(counts_of(1, 2).covers(counts_of(1, 3)), False)
        self.same(counts_of(1, 2).stands_to(counts_of(1, 3)), "ahead")
        self.same(counts_of(1, 3).stands_to(counts_of(1, 2)), "behind")
        self.same(counts_of(1, 3).stands_to(counts_of(2, 2)), "beside")
        self.same(counts_of(1, 3).stands_to(counts_of(1, 3)), "same")

    def test_with_itself(self):
        for row in ROWS:
            counts = Counts(row)
            self.same(counts.joined(counts).told(), row)
            self.same(counts.common(counts).told(), row)
            self.assertIs(counts.covers(counts), True)
            self.same(counts.stands_to(counts), "same")

    def test_refusals(self):
        counts = counts_of(1, 2, 3)
        for ask in [counts.joined, counts.common, counts.covers, counts.stands_to, counts.changes_from]:
            for thing in [None, (1, 2, 3), [1, 2, 3], "1 2 3", 3, *no_counts()]:
                self.refuses(NoCounts, thing, ask, thing)
            for other in [counts_of(1, 2), counts_of(0, 0, 0, 0), counts_of(1, 2, 3, 4, 5)]:
                self.refuses(Unlike, other, ask, other)
            self.refuses(NoCounts, None, ask, other=None)

    def test_by_name(self):
        counts, other = counts_of(1, 2), counts_of(2, 1)
        self.same(counts.joined(other=other).told(), (2, 2))
        self.same(counts.common(other=other).told(), (1, 1))
        self.assertIs(counts.covers(other=other), False)
        self.same(counts.stands_to(other=other), "beside")


class Changes(HallCase):

    def test_raised(self):
        for row in ROWS:
            for member in range(len(row)):
                for by in [0, 1, 2, 30, BIG]:
                    wanted = list(row)
                    wanted[member] += by
                    counts = Counts(row)
                    self.same(counts.raised(member, by), Counts(wanted))
                    self.same(counts.raised(by=by, member=member).told(), tuple(wanted))
                    self.same(counts.told(), row)

    def test_raised_without_by(self):
        self.same(counts_of(1, 2, 3).raised(0).told(), (2, 2, 3))
        self.same(counts_of(1, 2, 3).raised(2).told(), (1, 2, 4))
        self.same(counts_of(1, 2, 3).raised(member=1).told(), (1, 3, 3))

    def test_raised_refused(self):
        counts = counts_of(1, 2, 3)
        for thing in [*no_members(3), 3, -1, True]:
            self.refuses(NoMember, thing, counts.raised, thing)
            self.refuses(NoMember, thing, counts.raised, thing, 2)
            self.refuses(NoMember, thing, counts.raised, thing, -1)
            self.refuses(NoMember, thing, counts.raised, by=None, member=thing)
        for thing in [*odd_but(lambda thing: is_number(thing, 0)), -1, True, False, None]:
            self.refuses(NoNumber, thing, counts.raised, 1, thing)
        self.same(counts.told(), (1, 2, 3))

    def test_changes_from_both_ways(self):
        for one in small_rows(3):
            for other in small_rows(3):
                told = Counts(one).changes_from(Counts(other))
                self.same(told, [(k, one[k]) for k in range(3) if one[k] != other[k]])
                self.same(Counts(other).changed(told).told(), one)
                self.same(Counts(other).changed(changes=tuple(reversed(told))).told(), one)

    def test_changes_from_plainly(self):
        self.same(counts_of(3, 2, 1).changes_from(counts_of(1, 2, 3)), [(0, 3), (2, 1)])
        self.same(counts_of(1, 2, 3).changes_from(other=counts_of(3, 2, 1)), [(0, 1), (2, 3)])
        self.same(counts_of(1, 2).changes_from(counts_of(1, 2)), [])
        one, other = counts_of(0, 1, 0, 1, 0), counts_of(1, 0, 1, 0, 1)
        self.same(one.changes_from(other), [(0, 0), (1, 1), (2, 0), (3, 1), (4, 0)])
        self.own_list(lambda: one.changes_from(other))

    def test_changed(self):
        counts = counts_of(5, 6, 7, 8)
        for changes, wanted in [([], (5, 6, 7, 8)), ((), (5, 6, 7, 8)), ([(2, 0)], (5, 6, 0, 8)),
                                ([(3, 1), (0, 2)], (2, 6, 7, 1)), (((1, 9), (0, BIG)), (BIG, 9, 7, 8)),
                                ([(3, 4), (1, 2), (2, 3), (0, 1)], (1, 2, 3, 4)), ([(1, 6)], (5, 6, 7, 8))]:
            self.same(counts.changed(changes), Counts(wanted))
        self.same(counts.told(), (5, 6, 7, 8))

    def test_changes_are_not_changed_nor_kept(self):
        changes = [(2, 1), (0, 4)]
        told = counts_of(0, 0, 0).changed(changes)
        self.assertEqual(changes, [(2, 1), (0, 4)])
        changes[0] = (1, 1)
        self.same(told.told(), (4, 0, 1))

    def test_changed_refused(self):
        counts = counts_of(5, 6, 7)
        wrong = [
            [[0, 1]], [(0, 1), [1, 1]], [(3, 1)], [(-1, 1)], [(0, 1), (3, 0)], [(0, 1), (0, 1)],
            [(0, 1), (1, 1), (0, 2)], [(0, -1)], [(1, 1), (2, -BIG)], [(0, True)], [(0, False)], [(True, 1)],
            [(False, 1)], [(0,)], [(0, 1, 2)], [()], [(1, 1), ()], [None], [0, 1], [(0, None)], [(0, "1")],
            [("0", 1)], (0, 1), ((0, 1), (0, 1)), "ab", {0: 1}, {(0, 1): 1}, counts_of(0, 1, 2), None, 7,
            [counts_of(0, 1)], [{0: 1, 1: 1}], [[(0, 1)]], [((0, 1),)],
        ]
        for thing in [*wrong, *odd_but(lambda thing: are_right_changes(thing, 3))]:
            self.refuses(NoCounts, thing, counts.changed, thing)
            self.refuses(NoCounts, thing, counts.changed, changes=thing)
        self.same(counts.told(), (5, 6, 7))

    def test_members_of_changes_are_those_of_so_many(self):
        for many in range(2, 6):
            self.same(Counts([0] * many).changed([(many - 1, 3)]).of(many - 1), 3)
            changes = [(many, 3)]
            self.refuses(NoCounts, changes, Counts([0] * many).changed, changes)


class AllJoined(HallCase):

    def test_of_none(self):
        for members in range(2, 6):
            for rows in [[], ()]:
                self.same(all_joined(members, rows), Counts([0] * members))

    def test_of_one_and_of_many(self):
        chance = random.Random(15)
        for _ in range(200):
            members = chance.randint(2, 5)
            rows = [tuple(chance.randint(0, 30) for _ in range(members)) for _ in range(chance.randint(1, 6))]
            wanted = tuple(max(column) for column in zip(*rows))
            self.same(all_joined(members, [Counts(row) for row in rows]).told(), wanted)
            self.same(all_joined(rows=tuple(Counts(row) for row in rows), members=members).told(), wanted)

    def test_plainly(self):
        self.same(all_joined(3, [counts_of(1, 0, 2)]).told(), (1, 0, 2))
        self.same(all_joined(3, [counts_of(1, 0, 2), counts_of(0, 3, 1), counts_of(2, 0, 0)]).told(), (2, 3, 2))

    def test_list_stays(self):
        rows = [counts_of(1, 0), counts_of(0, 1)]
        all_joined(2, rows)
        self.assertEqual(rows, [counts_of(1, 0), counts_of(0, 1)])

    def test_number_of_members_ahead_of_the_rows(self):
        for thing in no_hall_sizes():
            for rows in [[], None, [counts_of(0, 0)], [None]]:
                self.refuses(NoNumber, thing, all_joined, thing, rows)
        self.refuses(NoNumber, 6, all_joined, rows=None, members=6)
        self.refuses(NoNumber, 1, all_joined, 1, [])

    def test_rows_refused(self):
        wrong = [
            None, 5, "ab", {}, {0: counts_of(1, 2)}, counts_of(1, 2), [None], [(1, 2)], [[1, 2]],
            [counts_of(1, 2), None], [counts_of(1, 2), counts_of(1, 2, 3)], [counts_of(1, 2, 3)],
            (counts_of(1, 2), (0, 0)), [[counts_of(1, 2)]],
        ]
        for thing in [*wrong, *[thing for thing in odd_things() if thing not in ([], ())]]:
            self.refuses(NoCounts, thing, all_joined, 2, thing)
        for members in range(2, 6):
            for others in range(2, 6):
                if members != others:
                    rows = [Counts([0] * members), Counts([1] * others)]
                    self.refuses(NoCounts, rows, all_joined, members, rows)
                    self.refuses(NoCounts, rows, all_joined, members, rows=rows)


if __name__ == "__main__":
    unittest.main()
