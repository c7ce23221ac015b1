"""Histories, promises [31] to [34]."""

import copy
import random
import unittest

from causehall.books import Book
from causehall.errors import NoHistory, NoMember, NoNumber, NoRow
from causehall.histories import alike_to, book_of, first_wrong, got_by, is_history, longest_told, told_by
from tests.support import BIG, HallCase, Maker, letter_of, no_hall_sizes, no_members, odd_but, odd_things

EMPTY = ([], ())
NO_HISTORIES = odd_but(lambda thing: thing in EMPTY)

# Members 0 and 1 both deliver and tell both letters; 2 delivers and tells the first alone.
SMALL = [
    ("sent", 0, "a"), ("got", 1, 0, 1), ("sent", 1, "b"), ("got", 0, 1, 1), ("told", 0, 1, 0, 1),
    ("told", 1, 1, 0, 1), ("told", 1, 2, 1, 1), ("got", 2, 0, 1), ("told", 2, 1, 0, 1), ("told", 0, 2, 1, 1),
]


class Plain:
    """What happened by rows that can be, by sets and lists alone."""

    def __init__(self, members):
        self.got = [[] for _ in range(members)]
        self.told = [[] for _ in range(members)]
        self.causes = {}

    def word(self, row):
        """Why the row can't be, or None: the first word of [32] that holds."""
        if row[0] == "sent":
            return None
        member, ident = row[1], row[-2:]
        holds = self.words_of_got(member, ident) if row[0] == "got" else self.words_of_told(member, row[2], ident)
        return next((word for word, does in holds if does), None)

    def words_of_got(self, member, ident):
        """The words of a got, and whether each holds."""
        return [
            ("own", ident[0] == member), ("unsent", ident not in self.causes), ("again", ident in self.got[member]),
            ("early", not self.causes.get(ident, set()) <= set(self.got[member])),
        ]

    def words_of_told(self, member, place, ident):
        """The words of a told, and whether each holds."""
        others = [row for other, row in enumerate(self.told) if other != member]
        return [
            ("place", len(self.told[member]) != place - 1), ("not got", ident not in self.got[member]),
            ("again", ident in self.told[member]),
            ("other", any((at == place) != (one == ident) for row in others for at, one in enumerate(row, start=1)
                          if at == place or one == ident)),
            ("causes", not self.causes.get(ident, set()) <= set(self.told[member])),
        ]

    def add(self, row):
        """The row happens."""
        member = row[1]
        if row[0] == "sent":
            ident = (member, 1 + sum(1 for one in self.got[member] if one[0] == member))
            self.causes[ident] = set(self.got[member])
            self.got[member].append(ident)
        elif row[0] == "got":
            self.got[member].append(row[2:])
        else:
            self.told[member].append(row[3:])


def plainly_wrong(members, rows):
    """The first row that can't be, told without the program."""
    plain = Plain(members)
    for place, row in enumerate(rows):
        word = plain.word(row)
        if word:
            return (place, word)
        plain.add(row)
    return None


def any_row(chance, members):
    """A row of any form, often one that can't be."""
    member, sender = chance.randrange(members), chance.randrange(members)
    number, place = chance.randint(1, 4), chance.randint(1, 5)
    return chance.choice([("sent", member, "x"), ("got", member, sender, number),
                          ("told", member, place, sender, number)])


def spoil(chance, members, rows):
    """The rows with one put in, left out, exchanged or changed."""
    rows = list(rows)
    at, other = chance.randrange(len(rows)), chance.randrange(len(rows))
    kind = chance.choice(["in", "out", "exchange", "change", "double"])
    if kind == "in":
        rows.insert(at, any_row(chance, members))
    elif kind == "out":
        del rows[at]
    elif kind == "exchange":
        rows[at], rows[other] = rows[other], rows[at]
    elif kind == "change":
        rows[at] = any_row(chance, members)
    else:
        rows.insert(at, rows[other])
    return rows


def makers():
    """Histories that can be, of all numbers of members."""
    return [Maker(2 + seed % 4, 1000 + seed).go(10 + 6 * seed) for seed in range(40)]


class IsHistory(HallCase):

    def test_each_form(self):
        for members in range(2, 6):
            for member in range(members):
                for sender in range(members):
                    for rows in [[("sent", member, "tea")], [("got", member, sender, 1)],
                                 [("told", member, 1, sender, 1)], [("got", member, sender, BIG)],
                                 [("told", member, BIG, sender, BIG)], [("sent", member, "abcdefgh")]]:
                        self.assertIs(is_history(members, rows), True)
                        self.assertIs(is_history(members, tuple(rows)), True)
                        self.assertIs(is_history(members, rows * 3), True)
            for rows in EMPTY:
                self.assertIs(is_history(members, rows), True)
        self.assertIs(is_history(rows=SMALL, members=3), True)
        self.assertIs(is_history(rows=SMALL, members=2), False)

    def spoilt(self, members):
        """Rows that have none of the forms."""
        member = [-1, members, BIG, True, False, None, "0", (0,), [0]]
        number = [0, -1, True, False, None, "1", [1], (1,), -BIG]
        word = ["", "abcdefghi", "Tea", "te a", "1", 1, None, True, ["a"], ("tea",)]
        name = ["", "Sent", "send", "got ", "tell", "lost", None, 0, ["sent"], ("got",), {}]
        sent, got, told = ("sent", 0, "tea"), ("got", 1, 0, 1), ("told", 1, 1, 0, 1)
        rows = []
        for row, parts in [(sent, [name, member, word]), (got, [name, member, member, number]),
                           (told, [name, member, number, member, number])]:
            for place, wrong in enumerate(parts):
                rows += [row[:place] + (thing,) + row[place + 1:] for thing in wrong]
                rows.append(row[:place] + row[place + 1:])
                rows.append(row[:place] + (row[place],) + row[place:])
            rows += [list(row), (*row, 1), (*row, "tea"), row + row, (), row[:1], (row,), [row]]
        rows += [("got", 0, "tea"), ("told", 0, "tea"), ("sent", 1, 0, 1), ("sent", 1, 1, 0, 1), ("got", 1, 1, 0, 1),
                 ("told", 1, 0, 1), ("sent", 0, 1), ("sent", 0), ("got", 0), ("told", 0), ("sent",), ("got",),
                 ("told",), ("got", 0, 1), ("told", 0, 1), ("told", 0, 1, 1), {0: "sent", 1: 0, 2: "tea"},
                 "sent 0 tea", "sent"]
        return rows

    def test_spoilt_at_each_part(self):
        for members in range(2, 6):
            good = ("sent", 0, "a")
            for row in [*self.spoilt(members), *odd_things()]:
                for rows in [[row], (row,), [good, row], [row, good], [good, ("got", 1, 0, 1), row, good]]:
                    self.assertIs(is_history(members, rows), False, rows)

    def test_no_list(self):
        for thing in [*NO_HISTORIES, {("sent", 0, "a"): 1}, ("sent", 0, "a"), "sent", Book(2)]:
            self.assertIs(is_history(3, thing), False)

    def test_four_hundred_rows(self):
        for row in [("told", 0, 1, 1, 1), ("got", 0, 1, 5)]:
            for many, wanted in [(0, True), (1, True), (399, True), (400, True), (401, False), (500, False)]:
                self.assertIs(is_history(2, [row] * many), wanted, many)
                self.assertIs(is_history(2, (row,) * many), wanted, many)

    def test_thirty_sent(self):
        for members in range(2, 6):
            for many, wanted in [(29, True), (30, True), (31, False), (60, False)]:
                rows = [("sent", k % members, "a") for k in range(many)]
                self.assertIs(is_history(members, rows), wanted)
                rows += [("got", 0, 1, 1)] * 100
                self.assertIs(is_history(members, rows), wanted)
        self.assertIs(is_history(2, [("got", 0, 1, 1)] * 370 + [("sent", 0, "a")] * 30), True)
        self.assertIs(is_history(2, [("got", 0, 1, 1)] * 371 + [("sent", 0, "a")] * 30), False)

    def test_whatever_they_say(self):
        self.assertIs(is_history(2, [("told", 0, 9, 0, 9), ("got", 0, 0, 7), ("got", 0, 0, 7)]), True)

    def test_number_of_members(self):
        for thing in no_hall_sizes():
            for rows in [[], None, SMALL]:
                self.refuses(NoNumber, thing, is_history, thing, rows)
        self.refuses(NoNumber, 6, is_history, rows=[], members=6)


class FirstWrong(HallCase):

    def wrong(self, rows, word, members=3):
        """The last of the rows is the first that can't be, by this word."""
        self.same(first_wrong(members, rows), (len(rows) - 1, word))
        self.same(first_wrong(members, tuple(rows)), (len(rows) - 1, word))
        self.assertIsNone(first_wrong(members, rows[:-1]))
        after = [*rows, ("got", 0, 0, 9), ("sent", 1, "x"), ("told", 2, 9, 0, 9)]
        self.same(first_wrong(members, after), (len(rows) - 1, word))

    def test_none_where_all_can_be(self):
        for members in range(2, 6):
            for rows in EMPTY:
                self.assertIsNone(first_wrong(members, rows))
        for place in range(len(SMALL) + 1):
            self.assertIsNone(first_wrong(3, SMALL[:place]))
        self.assertIsNone(first_wrong(rows=SMALL, members=3))
        for maker in makers():
            self.assertIsNone(first_wrong(maker.members, maker.rows))

    def test_own(self):
        self.wrong([("got", 0, 0, 1)], "own")
        self.wrong([("sent", 0, "a"), ("got", 0, 0, 1)], "own")
        self.wrong([("sent", 0, "a"), ("got", 0, 0, 2)], "own")
        self.wrong([("sent", 2, "a"), ("got", 2, 2, BIG)], "own")

    def test_unsent(self):
        self.wrong([("got", 0, 1, 1)], "unsent")
        self.wrong([("sent", 1, "a"), ("got", 0, 1, 2)], "unsent")
        self.wrong([("sent", 1, "a"), ("got", 0, 1, 1), ("got", 0, 1, 2)], "unsent")
        self.wrong([("sent", 1, "a"), ("got", 0, 1, BIG)], "unsent")
        self.wrong([("sent", 1, "a"), ("got", 0, 2, 1)], "unsent")
        self.same(first_wrong(3, [("got", 0, 1, 1), ("sent", 1, "a")]), (0, "unsent"))

    def test_again(self):
        self.wrong([("sent", 1, "a"), ("got", 0, 1, 1), ("got", 0, 1, 1)], "again")
        self.wrong([("sent", 1, "a"), ("sent", 1, "a"), ("got", 0, 1, 1), ("got", 0, 1, 2), ("got", 0, 1, 1)], "again")

    def test_early(self):
        self.wrong([("sent", 1, "a"), ("sent", 1, "a"), ("got", 0, 1, 2)], "early")
        self.wrong([("sent", 0, "a"), ("got", 1, 0, 1), ("sent", 1, "b"), ("got", 2, 1, 1)], "early")
        # One of two causes beside each other is there, and the other one is not.
        self.wrong([("sent", 0, "a"), ("sent", 1, "b"), ("got", 2, 0, 1), ("got", 2, 1, 1), ("sent", 2, "c"),
                    ("got", 0, 2, 1)], "early")
        self.wrong([("sent", 0, "a"), ("sent", 1, "b"), ("got", 2, 0, 1), ("got", 2, 1, 1), ("sent", 2, "c"),
                    ("got", 1, 2, 1)], "early")

    def test_place(self):
        self.wrong([("sent", 0, "a"), ("told", 0, 2, 0, 1)], "place")
        self.wrong([("sent", 0, "a"), ("told", 0, 1, 0, 1), ("told", 0, 1, 0, 1)], "place")
        self.wrong([("sent", 0, "a"), ("told", 0, 1, 0, 1), ("told", 0, 3, 0, 1)], "place")
        self.wrong([("sent", 0, "a"), ("told", 0, BIG, 0, 1)], "place")
        self.wrong([*SMALL, ("told", 2, 1, 0, 1)], "place")
        self.wrong([*SMALL, ("told", 2, 3, 0, 1)], "place")

    def test_not_got(self):
        self.wrong([("told", 0, 1, 0, 1)], "not got")
        self.wrong([("sent", 0, "a"), ("told", 1, 1, 0, 1)], "not got")
        self.wrong([("sent", 0, "a"), ("told", 0, 1, 0, 2)], "not got")
        self.wrong([("sent", 0, "a"), ("told", 0, 1, 0, BIG)], "not got")
        self.wrong([*SMALL, ("told", 2, 2, 1, 1)], "not got")

    def test_told_again(self):
        self.wrong([("sent", 0, "a"), ("told", 0, 1, 0, 1), ("told", 0, 2, 0, 1)], "again")
        self.wrong([*SMALL, ("told", 0, 3, 0, 1)], "again")
        self.wrong([*SMALL, ("told", 0, 3, 1, 1)], "again")

    def test_other(self):
        two = [("sent", 0, "a"), ("sent", 1, "b")]
        self.wrong([*two, ("told", 0, 1, 0, 1), ("told", 1, 1, 1, 1)], "other")
        self.wrong([*two, ("told", 1, 1, 1, 1), ("told", 0, 1, 0, 1)], "other")
        both = [*two, ("got", 2, 0, 1), ("got", 2, 1, 1), ("told", 2, 1, 0, 1), ("told", 2, 2, 1, 1)]
        # The letter has another number, at which this member tells none yet.
        self.wrong([*both, ("told", 1, 1, 1, 1)], "other")
        four = [*both, ("sent", 0, "c"), ("sent", 1, "d"), ("got", 0, 1, 1), ("told", 0, 1, 0, 1), ("told", 0, 2, 1, 1)]
        self.assertIsNone(first_wrong(3, [*four, ("got", 2, 0, 2), ("told", 2, 3, 0, 2), ("told", 0, 3, 0, 2)]))
        self.wrong([*four, ("got", 0, 1, 2), ("told", 0, 3, 0, 2), ("got", 2, 0, 2), ("got", 2, 1, 2),
                    ("told", 2, 3, 1, 2)], "other")

    def test_causes(self):
        self.wrong([("sent", 0, "a"), ("sent", 0, "b"), ("told", 0, 1, 0, 2)], "causes")
        self.wrong([("sent", 0, "a"), ("got", 1, 0, 1), ("sent", 1, "b"), ("told", 1, 1, 1, 1)], "causes")
        self.wrong([("sent", 0, "a"), ("sent", 1, "b"), ("got", 2, 0, 1), ("got", 2, 1, 1), ("sent", 2, "c"),
                    ("told", 2, 1, 0, 1), ("told", 2, 2, 2, 1)], "causes")

    def test_two_at_once_got(self):
        # own and unsent, own and again
        self.wrong([("got", 1, 1, 4)], "own")
        self.wrong([("sent", 1, "a"), ("got", 1, 1, 1)], "own")
        # unsent, and the letters ahead of it are not delivered
        self.wrong([("sent", 1, "a"), ("got", 0, 1, 3)], "unsent")

    def test_two_at_once_told(self):
        # place and not got
        self.wrong([("told", 0, 2, 1, 1)], "place")
        # place and again
        self.wrong([("sent", 0, "a"), ("told", 0, 1, 0, 1), ("told", 0, 1, 0, 1)], "place")
        # place and other
        self.wrong([("sent", 0, "a"), ("told", 0, 1, 0, 1), ("got", 1, 0, 1), ("told", 1, 2, 0, 1)], "place")
        # place and causes
        self.wrong([("sent", 0, "a"), ("sent", 0, "a"), ("told", 0, 2, 0, 2)], "place")
        # not got and other
        self.wrong([("sent", 0, "a"), ("sent", 1, "b"), ("told", 0, 1, 0, 1), ("told", 2, 1, 1, 1)], "not got")
        # not got and causes
        self.wrong([("sent", 0, "a"), ("sent", 0, "a"), ("told", 1, 1, 0, 2)], "not got")
        # again and other
        self.wrong([*SMALL, ("got", 2, 1, 1), ("told", 2, 2, 0, 1)], "again")
        # other and causes
        self.wrong([("sent", 1, "b"), ("told", 1, 1, 1, 1), ("sent", 0, "a"), ("sent", 0, "c"),
                    ("told", 0, 1, 0, 2)], "other")

    def test_word_per_member(self):
        self.assertIsNone(first_wrong(3, [("sent", 0, "a"), ("got", 1, 0, 1), ("got", 2, 0, 1)]))
        self.assertIsNone(first_wrong(3, [("sent", 0, "a"), ("sent", 0, "a"), ("got", 1, 0, 1), ("got", 2, 0, 1),
                                          ("got", 2, 0, 2), ("got", 1, 0, 2)]))

    def test_thirty_sent_and_four_hundred_rows(self):
        rows = [("sent", 0, "a")] * 30
        rows += [("got", member, 0, number) for member in range(1, 5) for number in range(1, 31)]
        rows += [("told", member, number, 0, number) for member in range(5) for number in range(1, 31)]
        self.same(len(rows), 300)
        self.assertIsNone(first_wrong(5, rows))
        self.same(first_wrong(5, rows + [("got", 0, 0, 1)] * 100), (300, "own"))
        rows = rows[:-1]
        self.assertIsNone(first_wrong(5, rows))
        self.same(first_wrong(5, [*rows, ("told", 4, 30, 0, 29)]), (299, "again"))

    def test_against_the_plain_one(self):
        chance = random.Random(32)
        met = {}
        for maker in makers():
            for _ in range(60):
                rows = spoil(chance, maker.members, maker.rows)
                if chance.random() < 0.3:
                    rows = spoil(chance, maker.members, rows)
                if len(rows) > 400 or sum(1 for row in rows if row[0] == "sent") > 30:
                    continue
                wanted = plainly_wrong(maker.members, rows)
                got = first_wrong(maker.members, rows)
                self.assertEqual(got, wanted)
                if wanted is not None:
                    self.same(got, wanted)
                    met[rows[wanted[0]][0], wanted[1]] = True
        for kind, word in [("got", "own"), ("got", "unsent"), ("got", "again"), ("got", "early"), ("told", "place"),
                           ("told", "not got"), ("told", "again"), ("told", "other"), ("told", "causes")]:
            self.assertIn((kind, word), met)

    def test_of_random_rows(self):
        chance = random.Random(33)
        for _ in range(2500):
            members = chance.randint(2, 4)
            rows, plain = [], Plain(members)
            for _ in range(40):
                row = any_row(chance, members)
                if plain.word(row) is None:
                    rows.append(row)
                    plain.add(row)
            rows = rows[:30]
            wrong = [*rows, any_row(chance, members), any_row(chance, members)]
            if sum(1 for row in wrong if row[0] == "sent") <= 30:
                self.assertEqual(first_wrong(members, wrong), plainly_wrong(members, wrong))


class Refusals(HallCase):
    CALLS = [("first_wrong", first_wrong, ()), ("book_of", book_of, ()), ("got_by", got_by, (0,)),
             ("told_by", told_by, (0,)), ("longest_told", longest_told, ())]

    def test_number_of_members_ahead_of_all_else(self):
        for _, call, more in self.CALLS:
            for thing in no_hall_sizes():
                for rows in [[], None, [("got", 0, 0, 1)]]:
                    self.refuses(NoNumber, thing, call, thing, rows, *more)
        for thing in no_hall_sizes():
            self.refuses(NoNumber, thing, alike_to, thing, None, None)
            self.refuses(NoNumber, thing, alike_to, thing, [], [])
            self.refuses(NoNumber, thing, got_by, thing, [], None)
            self.refuses(NoNumber, thing, told_by, thing, [], None)

    def test_history(self):
        wrong = [*NO_HISTORIES, [("sent", 0)], [("got", 0, 1, 0)], [["sent", 0, "a"]], [("sent", 0, "a")] * 31,
                 [("got", 0, 0, 1), ("sent", 3, "a")], [("got", 0, 1, 1)] * 401]
        for _, call, more in self.CALLS:
            for thing in wrong:
                self.refuses(NoHistory, thing, call, 3, thing, *more)
        for thing in wrong:
            self.refuses(NoHistory, thing, got_by, 3, thing, None)
            self.refuses(NoHistory, thing, told_by, 3, thing, "x")
            self.refuses(NoHistory, thing, alike_to, 3, thing, [])
            self.refuses(NoHistory, thing, alike_to, 3, thing, None)
            self.refuses(NoHistory, thing, alike_to, 3, [], thing)

    def test_row_that_cannot_be(self):
        for rows, wanted in [([("got", 0, 0, 1)], (0, "own")), ([*SMALL, ("got", 2, 0, 1)], (10, "again")),
                             ([*SMALL, ("told", 2, 2, 1, 1), ("got", 0, 0, 1)], (10, "not got")),
                             ([("sent", 0, "a"), ("told", 0, 2, 0, 1)], (1, "place"))]:
            for call, more in [(book_of, ()), (got_by, (0,)), (told_by, (0,)), (longest_told, ()), (got_by, (None,)),
                               (told_by, (3,)), (got_by, (True,)), (told_by, ("x",))]:
                self.refuses_of(NoRow, wanted, call, 3, rows, *more)
                self.refuses_of(NoRow, wanted, call, 3, tuple(rows), *more)

    def test_member(self):
        for members in range(2, 6):
            for thing in [*no_members(members), members, -1, True, False]:
                for call in [got_by, told_by]:
                    self.refuses(NoMember, thing, call, members, [], thing)
                    self.refuses(NoMember, thing, call, members, [("sent", 0, "a")], thing)
                    self.refuses(NoMember, thing, call, member=thing, rows=(), members=members)

    def test_refused_of_the_very_list(self):
        rows = [("sent", 0, "a"), None]
        refusal = self.refusal(NoHistory, first_wrong, 2, rows)
        rows.append(1)
        self.assertEqual(refusal.found, [("sent", 0, "a"), None, 1])


class Telling(HallCase):

    def test_small_one(self):
        book = book_of(3, SMALL)
        self.assertIs(type(book), Book)
        self.same(book.ids(), [(0, 1), (1, 1)])
        self.assertEqual(book.letter((0, 1)), letter_of(0, (0, 0, 0), "a"))
        self.assertEqual(book.letter((1, 1)), letter_of(1, (1, 0, 0), "b"))
        self.same([got_by(3, SMALL, member) for member in range(3)], [[(0, 1), (1, 1)], [(0, 1), (1, 1)], [(0, 1)]])
        self.same([told_by(3, SMALL, member) for member in range(3)], [[(0, 1), (1, 1)], [(0, 1), (1, 1)], [(0, 1)]])
        self.same(longest_told(3, SMALL), [(0, 1), (1, 1)])
        self.same(longest_told(3, SMALL[:6]), [(0, 1)])
        self.same(longest_told(3, SMALL[:4]), [])

    def test_of_no_rows(self):
        for members in range(2, 6):
            for rows in EMPTY:
                self.same(book_of(members, rows).ids(), [])
                self.same(book_of(members, rows).counts().told(), (0,) * members)
                self.same(longest_told(members, rows), [])
                for member in range(members):
                    self.same(got_by(members, rows, member), [])
                    self.same(told_by(members, rows, member), [])

    def test_orders_as_they_came(self):
        rows = [("sent", 1, "b"), ("sent", 0, "a"), ("got", 2, 0, 1), ("got", 2, 1, 1), ("got", 0, 1, 1),
                ("told", 2, 1, 1, 1), ("told", 0, 1, 1, 1), ("told", 0, 2, 0, 1)]
        self.same(book_of(3, rows).ids(), [(1, 1), (0, 1)])
        self.same(got_by(3, rows, 2), [(0, 1), (1, 1)])
        self.same(got_by(3, rows, 0), [(0, 1), (1, 1)])
        self.same(got_by(3, rows, 1), [(1, 1)])
        self.same(told_by(3, rows, 2), [(1, 1)])
        self.same(told_by(3, rows, 1), [])
        self.same(longest_told(3, rows), [(1, 1), (0, 1)])

    def test_against_what_was_made(self):
        for maker in makers():
            members, rows = maker.members, maker.rows
            book = book_of(members, rows)
            self.same(book.ids(), maker.order)
            self.same([book.letter(ident) for ident in maker.order], maker.letters())
            for member in range(members):
                self.same(got_by(members, rows, member), maker.got[member])
                self.same(told_by(members, tuple(rows), member), maker.told[member])
            self.same(longest_told(members, rows), maker.row)

    def test_by_names(self):
        self.same(book_of(rows=SMALL, members=3).ids(), [(0, 1), (1, 1)])
        self.same(got_by(member=2, rows=SMALL, members=3), [(0, 1)])
        self.same(told_by(member=2, rows=SMALL, members=3), [(0, 1)])
        self.same(longest_told(rows=SMALL, members=3), [(0, 1), (1, 1)])
        self.same(alike_to(others=[], rows=SMALL, members=4), [3])

    def test_own_lists_and_what_was_handed_in_stays(self):
        rows = copy.deepcopy(SMALL)
        for tell in [lambda: got_by(3, rows, 0), lambda: told_by(3, rows, 0), lambda: longest_told(3, rows),
                     lambda: alike_to(3, rows, rows)]:
            self.own_list(tell)
        self.same(rows, SMALL)

    def test_books_have_nothing_in_common(self):
        one, other = book_of(3, SMALL), book_of(3, SMALL)
        one.keep(letter_of(2, (1, 1, 0)))
        self.same(len(one), 3)
        self.same(len(other), 2)
        self.same(len(book_of(3, SMALL)), 2)


class Alike(HallCase):

    def test_the_same(self):
        self.same(alike_to(3, SMALL, SMALL), [0, 1, 2])
        self.same(alike_to(3, SMALL, tuple(SMALL)), [0, 1, 2])
        for members in range(2, 6):
            self.same(alike_to(members, [], ()), list(range(members)))

    def test_woven_otherwise(self):
        chance = random.Random(34)
        for maker in makers():
            queues = [[row for row in maker.rows if row[1] == member] for member in range(maker.members)]
            woven = []
            while any(queues):
                woven.append(chance.choice([queue for queue in queues if queue]).pop(0))
            self.same(alike_to(maker.members, maker.rows, woven), list(range(maker.members)))

    def test_each_change(self):
        chance = random.Random(35)
        for maker in makers():
            for _ in range(10):
                rows = spoil(chance, maker.members, maker.rows)
                if len(rows) > 400 or sum(1 for row in rows if row[0] == "sent") > 30:
                    continue
                wanted = [member for member in range(maker.members)
                          if [r for r in rows if r[1] == member] == [r for r in maker.rows if r[1] == member]]
                self.same(alike_to(maker.members, rows, maker.rows), wanted)
                self.same(alike_to(maker.members, maker.rows, rows), wanted)

    def test_order_length_word_and_sender(self):
        one = [("sent", 0, "a"), ("sent", 0, "b"), ("got", 1, 0, 1), ("told", 2, 1, 0, 1)]
        for other, wanted in [
                ([one[1], one[0], *one[2:]], [1, 2]), (one[:3], [0, 1]), ([*one, one[3]], [0, 1]),
                ([("sent", 0, "c"), *one[1:]], [1, 2]), ([*one[:2], ("got", 1, 0, 2), one[3]], [0, 2]),
                ([*one[:2], ("got", 1, 2, 1), one[3]], [0, 2]), ([*one[:3], ("told", 2, 2, 0, 1)], [0, 1]),
                ([*one[:2], ("told", 1, 1, 0, 1), one[3]], [0, 2]), ([one[3], one[2], one[0], one[1]], [0, 1, 2]),
                ([], []), ([*one, ("got", 2, 1, 1)], [0, 1]), ([*one, ("got", 0, 2, 1)], [1, 2])]:
            self.same(alike_to(3, one, other), wanted)
            self.same(alike_to(3, other, one), wanted)
            self.same(alike_to(4, one, other), [*wanted, 3])

    def test_whether_they_can_be_or_not(self):
        wrong = [("got", 0, 0, 1), ("told", 1, 7, 0, 1)]
        self.same(alike_to(3, wrong, wrong), [0, 1, 2])
        self.same(alike_to(3, wrong, []), [2])


if __name__ == "__main__":
    unittest.main()
