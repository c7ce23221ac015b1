"""Deeds for a history, promise [75]."""

import random
import unittest

from causehall.errors import NoHistory, NoNumber, NoRow
from causehall.halls import Hall
from causehall.histories import first_wrong
from causehall.made import deeds_for
from tests.support import HallCase, Maker, no_hall_sizes, odd_but

NO_HISTORIES = odd_but(lambda thing: thing in ([], ()))


def rows_at_random(members, seed, steps=150):
    """A history of sent and got rows that can be."""
    maker = Maker(members, seed)
    for _ in range(steps):
        if maker.random.random() < 0.3:
            if len(maker.order) < 30:
                maker.send(maker.random.randrange(members), maker.random.choice(["a", "tea", "milk"]))
        else:
            member = maker.random.randrange(members)
            if maker.may_get(member):
                maker.get(member, maker.random.choice(maker.may_get(member)))
    return maker.rows


class Made(HallCase):

    def happens(self, members, rows):
        """The deeds told make a new Hall have just this history."""
        deeds = deeds_for(members, rows)
        self.assertIs(type(deeds), list)
        hall = Hall(members)
        for deed in deeds:
            hall.do(deed)
        self.same(hall.history(), list(rows))
        return deeds

    def test_small_ones(self):
        self.same(self.happens(2, []), [])
        self.same(self.happens(2, ()), [])
        self.happens(2, [("sent", 0, "a")])
        self.happens(3, [("sent", 0, "a"), ("got", 1, 0, 1), ("sent", 1, "b"), ("got", 2, 0, 1), ("got", 2, 1, 1),
                         ("got", 0, 1, 1)])
        self.happens(3, (("sent", 2, "a"), ("sent", 2, "b"), ("got", 0, 2, 1), ("sent", 0, "c"), ("got", 1, 2, 1),
                         ("got", 1, 0, 1), ("got", 1, 2, 2)))

    def test_drawn_at_random(self):
        many = 0
        for seed in range(80):
            members = 2 + seed % 4
            rows = rows_at_random(members, seed, 20 + 5 * seed)
            deeds = self.happens(members, rows)
            self.same(deeds_for(rows=tuple(rows), members=members), deeds)
            many = max(many, len(rows))
        self.assertGreater(many, 100)

    def test_thirty_letters_that_all_deliver(self):
        for members in range(2, 6):
            maker = Maker(members, members)
            for k in range(30):
                maker.send(k % members, "tea")
                for member in range(members):
                    while k % 4 == member % 4 and maker.may_get(member):
                        maker.get(member, maker.random.choice(maker.may_get(member)))
            for member in range(members):
                while maker.may_get(member):
                    maker.get(member, maker.random.choice(maker.may_get(member)))
            self.same(len(maker.rows), 30 * members)
            self.assertLessEqual(len(self.happens(members, maker.rows)), 200)

    def test_rows_are_not_changed(self):
        rows = rows_at_random(3, 1)
        before = list(rows)
        self.own_list(lambda: deeds_for(3, rows))
        self.same(rows, before)

    def test_no_number(self):
        for thing in [*no_hall_sizes(), 0, 1, 6, True, None]:
            self.refuses(NoNumber, thing, deeds_for, thing, [])
            self.refuses(NoNumber, thing, deeds_for, thing, [("got", 0, 0, 1)])
            self.refuses(NoNumber, thing, deeds_for, rows=5, members=thing)

    def test_no_history(self):
        for members in range(2, 6):
            for thing in [*NO_HISTORIES, [("sent", members, "a")], [("sent", 0, "A")], [["sent", 0, "a"]],
                          [("sent", 0, "a")] * 31, [("sent", 0, "a"), ("told", 0, 1, 0)], {("sent", 0, "a"): 1}]:
                if thing != ():
                    self.refused(NoHistory, thing, members, thing)

    def refused(self, error, found, members, rows):
        """The refusal, of the very thing."""
        refusal = self.refusal(error, deeds_for, members, rows)
        self.assertIs(refusal.found, found)

    def test_row_that_cannot_be(self):
        for seed in range(30):
            chance, members = random.Random(seed), 2 + seed % 4
            rows = rows_at_random(members, seed, 60)
            at = chance.randrange(len(rows) + 1)
            for row in [("got", 0, 0, 1), ("got", 1, 0, 30), ("told", 0, 5, 0, 1), rows[at - 1]]:
                wrong = rows[:at] + [row] + rows[at:]
                told = first_wrong(members, wrong)
                if told is not None:
                    self.same(self.refusal(NoRow, deeds_for, members, wrong).found, told)
        self.same(self.refusal(NoRow, deeds_for, 2, [("sent", 0, "a"), ("told", 0, 1, 0, 1), ("got", 0, 0, 1)]).found,
                  (2, "own"))

    def test_told_rows_behind_all_else(self):
        rows = [("sent", 0, "a"), ("got", 1, 0, 1), ("told", 1, 1, 0, 1), ("sent", 1, "b")]
        for thing in [rows, tuple(rows), rows[:3], [rows[0], ("told", 0, 1, 0, 1)]]:
            self.refused(NoHistory, thing, 2, thing)
        self.same(self.refusal(NoRow, deeds_for, 2, [*rows, ("got", 1, 0, 1)]).found, (4, "again"))


if __name__ == "__main__":
    unittest.main()
