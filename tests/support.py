"""What the tests share: odd things, strict comparing, refusals, and letters made at random."""

import random
import unittest

from causehall.books import Book
from causehall.counts import Counts
from causehall.errors import Full, NoNumber
from causehall.letters import Letter
from causehall.numbered import NumberHall
from causehall.plain import PlainHall

BIG = 10 ** 30 - 1


def odd_things():
    """Things of all kinds that may be handed in as any thing, new ones each time."""
    deep = []
    for _ in range(9):
        deep = [deep]
    return [
        None, True, False, 0, 1, 2, 3, 4, 5, 6, 29, 30, 31, -1, -2, -BIG, BIG,
        "", "a", "tea", "Tea", "te a", "abcdefghi", "0", "1", "01", "one two\nthree", "x" * 4000, "1" * 4000,
        [], [0], [0, 1], [0, 1, 2], [1, 1], [True, False], [-1, 0], ["a", "b"], [None], [[]], [0] * 500, deep,
        (), (0,), (0, 0), (0, 1), (1, 1), (4, 30), (0, True), (False, 1), (0, 1, 2), ("a", 1), (0, -1), ((0, 1),),
        [(0, 1)], [(0, 1), (0, 1)], [[0, 1]], [(0, True)], [(True, 1)], [(0, 1, 2)], [(-1, 1)], [("sent", 0)],
        {}, {0: 1}, {"found": 1}, {(0, 1): [2]}, {0: 0, 1: 0}, {"a": {"b": (1, [2])}},
        Counts([0, 0]), Counts([1, 2, 3]), [Counts([0, 0]), None], Letter(1, 1, "tea", Counts([0, 0, 1])),
        Book(2), [Book(3)], NoNumber(3), Full(30), NumberHall(2), PlainHall(2), (PlainHall(3), 1),
    ]


def odd_but(is_right):
    """All odd things but those of which this is true."""
    return [thing for thing in odd_things() if not is_right(thing)]


def is_number(thing, low, high=None):
    """Whether the thing is a whole number in these bounds, told without the program."""
    return type(thing) is int and thing >= low and (high is None or thing <= high)


def no_hall_sizes():
    """Things that are no whole number from 2 to 5."""
    return odd_but(lambda thing: is_number(thing, 2, 5))


def no_members(members):
    """Things that are no one of so many members."""
    return odd_but(lambda thing: is_number(thing, 0, members - 1))


def no_counts():
    """Things that are no Counts."""
    return odd_but(lambda thing: isinstance(thing, Counts))


def no_letters():
    """Things that are no Letter."""
    return odd_but(lambda thing: isinstance(thing, Letter))


class HallCase(unittest.TestCase):
    """A test case that knows kinds and refusals."""

    def same(self, got, wanted):
        """Both are equal, and of the same kinds all the way down."""
        self.assertIs(type(got), type(wanted), (got, wanted))
        self.assertEqual(got, wanted)
        if isinstance(got, (list, tuple)):
            for one, other in zip(got, wanted):
                self.same(one, other)

    def refusal(self, error, call, *args, **more):
        """The refusal that the call ends in, of just this class."""
        try:
            told = call(*args, **more)
        except error as refused:
            self.assertIs(type(refused), error)
            return refused
        self.fail(f"told {told!r} where {error.__name__} is due")

    def refuses(self, error, thing, call, *args, **more):
        """The call is refused with the very thing."""
        self.assertIs(self.refusal(error, call, *args, **more).found, thing)

    def refuses_of(self, error, wanted, call, *args, **more):
        """The call is refused with something equal to what is wanted."""
        self.same(self.refusal(error, call, *args, **more).found, wanted)

    def own_list(self, tell):
        """What is told is a new list each time, and the asker's own."""
        first = tell()
        self.assertIs(type(first), list)
        kept = list(first)
        first.append("more")
        del first[:1]
        second = tell()
        self.assertIsNot(first, second)
        self.same(second, kept)


def counts_of(*numbers):
    """Counts of these numbers."""
    return Counts(list(numbers))


def letter_of(sender, row, word="tea"):
    """The letter of this sender and this row, with the number that the row tells."""
    return Letter(sender, row[sender] + 1, word, Counts(list(row)))


def book_with(members, letters):
    """A Book that these letters came into, in order."""
    book = Book(members)
    for letter in letters:
        book.keep(letter)
    return book


class Maker:
    """Makes histories at random that can be, and knows plainly what happened in them."""

    def __init__(self, members, seed):
        self.members = members
        self.random = random.Random(seed)
        self.rows = []
        self.sent = {}
        self.order = []
        self.got = [[] for _ in range(members)]
        self.told = [[] for _ in range(members)]
        self.row = []

    def counts(self, member):
        """How many letters of each member this one delivered."""
        return tuple(sum(1 for ident in self.got[member] if ident[0] == other) for other in range(self.members))

    def causes(self, ident):
        """The ids of all causes of a letter."""
        return {(member, n) for member, count in enumerate(self.sent[ident][1]) for n in range(1, count + 1)}

    def send(self, member, word):
        """The member sends its next letter."""
        counts = self.counts(member)
        ident = (member, counts[member] + 1)
        self.sent[ident] = (word, counts)
        self.order.append(ident)
        self.got[member].append(ident)
        self.rows.append(("sent", member, word))

    def may_get(self, member):
        """The ids that the member may deliver next."""
        mine = set(self.got[member])
        return [ident for ident in self.order if ident not in mine and self.causes(ident) <= mine]

    def get(self, member, ident):
        """The member delivers a letter."""
        self.got[member].append(ident)
        self.rows.append(("got", member, *ident))

    def may_tell(self, member):
        """The ids that the member may tell next."""
        mine = self.told[member]
        if len(mine) < len(self.row):
            following = [self.row[len(mine)]]
        else:
            following = [i for i in self.got[member] if i not in mine and self.causes(i) <= set(mine)]
        return [ident for ident in following if ident in self.got[member]]

    def tell(self, member, ident):
        """The member tells a letter."""
        self.told[member].append(ident)
        if len(self.told[member]) > len(self.row):
            self.row.append(ident)
        self.rows.append(("told", member, len(self.told[member]), *ident))

    def step(self, most_sent):
        """One row more, of whatever kind."""
        member = self.random.randrange(self.members)
        kind = self.random.choice(["sent", "got", "got", "got", "told", "told"])
        if kind == "sent" and len(self.order) < most_sent:
            self.send(member, "".join(self.random.choice("abxyz") for _ in range(self.random.randint(1, 8))))
        elif kind == "got" and self.may_get(member):
            self.get(member, self.random.choice(self.may_get(member)))
        elif kind == "told" and self.may_tell(member):
            self.tell(member, self.random.choice(self.may_tell(member)))

    def go(self, steps, most_sent=30):
        """So many tries for a row more."""
        for _ in range(steps):
            self.step(most_sent)
        return self

    def letters(self):
        """All letters, in the order in which they were sent."""
        return [Letter(*ident, self.sent[ident][0], Counts(self.sent[ident][1])) for ident in self.order]

    def book(self):
        """A Book of all letters."""
        return book_with(self.members, self.letters())


def spoilt(right, parts):
    """The right tuple with each of its parts exchanged for other things in turn, and of other lengths and kinds.

    Of each place parts has the things that are wrong there, None where all odd things are.
    """
    wrong = [list(right), right[:-1], (*right, 1), (*right, right[-1]), (right,), [right], {right: right}, right[1:]]
    for place in range(len(right)):
        for thing in odd_things() if parts[place] is None else parts[place]:
            wrong.append(right[:place] + (thing,) + right[place + 1:])
    return wrong
