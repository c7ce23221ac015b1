"""Books, promises [22] to [25]."""

import itertools
import math
import signal
import time
import unittest

from causehall.books import Book
from causehall.counts import Counts
from causehall.errors import Forged, Full, Known, Lacks, NoCauses, NoLetter, NoNumber, NotThere, Unlike
from causehall.letters import Letter
from tests.support import HallCase, Maker, book_with, letter_of, no_hall_sizes, no_letters, odd_but, odd_things

# Member 0 sends two letters; 1 knows the first of them ahead of its own two; 2 knows all but 1's second one.
SMALL = [
    letter_of(0, (0, 0, 0), "a"), letter_of(1, (1, 0, 0), "b"), letter_of(0, (1, 0, 0), "c"),
    letter_of(2, (2, 1, 0), "d"), letter_of(1, (1, 1, 0), "e"),
]


def shown(book):
    """All that a Book tells, to see that nothing changed."""
    ids = book.ids()
    return (book.counts(), ids, len(book), [book.letter(ident) for ident in ids], book.many_orders(),
            [(book.ahead(i), book.behind(i), book.beside(i), book.direct(i), book.places(i)) for i in ids])


def makers():
    """Histories of all numbers of members, with few and with many letters."""
    return [Maker(2 + seed % 4, seed).go(15 + 9 * seed, 1 + seed) for seed in range(30)]


def own_ones(members, many):
    """Letters of which each knows only its own member's ones ahead of it, so many of each member."""
    return [letter_of(k, tuple(n if m == k else 0 for m in range(members))) for k in range(members)
            for n in range(many[k])]


def by_turns(members, rounds):
    """Letters of two members: each of the first one's knows all ahead of it but the other's last one."""
    letters = []
    for k in range(rounds):
        letters.append(letter_of(0, (k, max(k - 1, 0)) + (0,) * (members - 2)))
        letters.append(letter_of(1, (k, k) + (0,) * (members - 2)))
    return letters


def step_by_step(book):
    """How many orders there are, by looking at each member's next letter in each beginning anew."""
    letters = {ident: book.letter(ident) for ident in book.ids()}
    beginnings = {(0,) * len(book.counts()): 1}
    for _ in letters:
        longer = {}
        for counts, many in beginnings.items():
            for member in range(len(counts)):
                ident = (member, counts[member] + 1)
                if ident not in letters:
                    continue
                if all([count >= wanted for count, wanted in zip(counts, letters[ident].causes().told())]):
                    further = (*counts[:member], counts[member] + 1, *counts[member + 1:])
                    longer[further] = longer.get(further, 0) + many
        beginnings = longer
    return sum(beginnings.values())


def least_time(call):
    """The least time that the call takes, of five."""
    times = []
    for _ in range(5):
        start = time.process_time()
        call()
        times.append(time.process_time() - start)
    return min(times)


class Making(HallCase):

    def test_at_first_none(self):
        for members in range(2, 6):
            book = Book(members)
            self.same(book.counts(), Counts([0] * members))
            self.same(book.ids(), [])
            self.same(len(book), 0)
            self.same(Book(members=members).counts().told(), (0,) * members)

    def test_refused(self):
        for thing in [*no_hall_sizes(), 0, 1, 6, True, "2", None]:
            self.refuses(NoNumber, thing, Book, thing)


class Keeping(HallCase):

    def test_tells_nothing(self):
        book = Book(3)
        for letter in SMALL:
            self.assertIsNone(book.keep(letter))
        self.same(book.ids(), [(0, 1), (1, 1), (0, 2), (2, 1), (1, 2)])
        self.assertIsNone(book.keep(letter=letter_of(2, (2, 1, 1))))

    def test_any_order_that_keeps_causes(self):
        orders = 0
        for order in itertools.permutations(SMALL):
            book = Book(3)
            there = []
            for letter in order:
                lacking = sorted({one.id_of() for one in SMALL if one.is_ahead_of(letter)} - set(there))
                before = shown(book)
                if lacking:
                    self.refuses_of(Lacks, lacking, book.keep, letter)
                    self.same(shown(book), before)
                    break
                book.keep(letter)
                there.append(letter.id_of())
                self.same(book.ids(), there)
                self.same(len(book), len(there))
                self.same(book.counts().told(), tuple(sum(1 for i in there if i[0] == k) for k in range(3)))
            orders += len(there) == 5
        self.same(orders, book_with(3, SMALL).many_orders())

    def test_no_letter(self):
        book = book_with(3, SMALL)
        before = shown(book)
        for thing in [*no_letters(), (0, 3), "0 3 tea 2 0 0"]:
            self.refuses(NoLetter, thing, book.keep, thing)
        self.same(shown(book), before)

    def test_unlike(self):
        for members in range(2, 6):
            for others in range(2, 6):
                if members != others:
                    book = book_with(members, [letter_of(0, (0,) * members)])
                    before = shown(book)
                    for row in [(0,) * others, (7,) * others]:
                        letter = letter_of(1, row)
                        self.refuses(Unlike, letter, book.keep, letter)
                    self.refuses(Unlike, letter, book.keep, letter=letter)
                    self.same(shown(book), before)

    def test_known_and_forged(self):
        book = book_with(3, SMALL)
        before = shown(book)
        for letter in SMALL:
            self.refuses_of(Known, letter.id_of(), book.keep, letter)
            alike = Letter(letter.sender(), letter.number(), letter.word(), Counts(letter.causes().told()))
            self.refuses_of(Known, letter.id_of(), book.keep, alike)
            another = Letter(letter.sender(), letter.number(), "other", letter.causes())
            self.refuses(Forged, another, book.keep, another)
            row = list(letter.causes().told())
            row[(letter.sender() + 1) % 3] += 20
            # It would lack causes, too; but its id is known.
            lacking = letter_of(letter.sender(), row, letter.word())
            self.refuses(Forged, lacking, book.keep, lacking)
        self.same(shown(book), before)

    def test_lacks_all_of_them_rising(self):
        book = book_with(3, [letter_of(1, (0, 0, 0)), letter_of(2, (0, 0, 0))])
        before = shown(book)
        for letter, lacking in [
                (letter_of(1, (0, 2, 0)), [(1, 2)]),
                (letter_of(2, (2, 3, 3)), [(0, 1), (0, 2), (1, 2), (1, 3), (2, 2), (2, 3)]),
                (letter_of(0, (1, 1, 2)), [(0, 1), (2, 2)]),
                (letter_of(0, (0, 0, 30)), [(2, number) for number in range(2, 31)]),
                (letter_of(0, (11, 0, 0)), [(0, number) for number in range(1, 12)])]:
            self.refuses_of(Lacks, lacking, book.keep, letter)
        self.same(shown(book), before)

    def test_row_that_lacks_causes_of_a_cause(self):
        book = book_with(3, SMALL)
        before = shown(book)
        for sender, row in [(2, (0, 1, 1)), (2, (1, 1, 1)), (1, (0, 2, 0)), (1, (1, 2, 1)), (0, (2, 0, 1)),
                            (2, (2, 0, 1)), (2, (1, 2, 1))]:
            letter = letter_of(sender, row)
            self.refuses(NoCauses, letter.causes(), book.keep, letter)
        self.same(shown(book), before)
        for sender, row in [(1, (2, 2, 1)), (0, (2, 2, 1)), (0, (2, 2, 0)), (0, (2, 0, 0)), (1, (1, 2, 0)),
                            (2, (2, 1, 1)), (0, (2, 1, 1))]:
            self.assertIsNone(book.twin().keep(letter_of(sender, row)))

    def test_row_that_goes_back_behind_its_own_letter_ahead(self):
        book = book_with(2, [letter_of(0, (0, 0)), letter_of(1, (1, 0))])
        letter = letter_of(1, (0, 1))
        self.refuses(NoCauses, letter.causes(), book.keep, letter)
        self.assertIsNone(book.keep(letter_of(1, (1, 1))))

    def test_cause_by_a_cause_of_another_member(self):
        book = book_with(4, [letter_of(3, (0, 0, 0, 0)), letter_of(2, (0, 0, 0, 1)), letter_of(1, (0, 0, 1, 1))])
        for row, right in [((0, 1, 1, 1), True), ((0, 0, 1, 1), True), ((0, 0, 0, 1), True), ((0, 0, 0, 0), True),
                           ((0, 1, 1, 0), False), ((0, 1, 0, 1), False), ((0, 1, 0, 0), False), ((0, 0, 1, 0),
                           False)]:
            letter = letter_of(0, row)
            if right:
                self.assertIsNone(book.twin().keep(letter))
            else:
                self.refuses(NoCauses, letter.causes(), book.keep, letter)

    def test_lacks_ahead_of_no_causes(self):
        book = book_with(3, SMALL)
        letter = letter_of(2, (0, 1, 2))
        self.refuses_of(Lacks, [(2, 2)], book.keep, letter)

    def test_full(self):
        letters = [letter_of(k % 3, tuple(k // 3 if m == k % 3 else 0 for m in range(3))) for k in range(30)]
        book = Book(3)
        for k, letter in enumerate(letters):
            self.same(len(book), k)
            book.keep(letter)
        self.same(len(book), 30)
        before = (book.ids(), book.counts())
        for letter in [letter_of(0, (10, 0, 0)), letter_of(2, (10, 10, 10))]:
            self.same(self.refusal(Full, book.keep, letter).many, 30)
        self.same((book.ids(), book.counts()), before)
        self.refuses_of(Known, (0, 1), book.keep, letters[0])
        forged = letter_of(0, (9, 1, 0))
        self.refuses(Forged, forged, book.keep, forged)
        self.refuses_of(Lacks, [(1, 11)], book.keep, letter_of(0, (10, 11, 0)))
        unlike = letter_of(0, (10, 0))
        self.refuses(Unlike, unlike, book.keep, unlike)

    def test_no_causes_ahead_of_full(self):
        letters = [letter_of(0, (0, 0)), letter_of(1, (1, 0))] + [letter_of(0, (k, 0)) for k in range(1, 29)]
        book = book_with(2, letters)
        self.same(len(book), 30)
        letter = letter_of(1, (0, 1))
        self.refuses(NoCauses, letter.causes(), book.keep, letter)
        self.same(self.refusal(Full, book.keep, letter_of(1, (1, 1))).many, 30)

    def test_thirty_of_one_member(self):
        book = book_with(2, [letter_of(1, (0, k)) for k in range(30)])
        self.same(book.counts().told(), (0, 30))
        self.same(self.refusal(Full, book.keep, letter_of(0, (0, 30))).many, 30)
        self.same(len(book), 30)


class Telling(HallCase):

    def test_small_one(self):
        book = book_with(3, SMALL)
        for ident, ahead, behind, beside, direct in [
                ((0, 1), [], [(0, 2), (1, 1), (1, 2), (2, 1)], [], []),
                ((0, 2), [(0, 1)], [(2, 1)], [(1, 1), (1, 2)], [(0, 1)]),
                ((1, 1), [(0, 1)], [(1, 2), (2, 1)], [(0, 2)], [(0, 1)]),
                ((1, 2), [(0, 1), (1, 1)], [], [(0, 2), (2, 1)], [(1, 1)]),
                ((2, 1), [(0, 1), (0, 2), (1, 1)], [], [(1, 2)], [(0, 2), (1, 1)])]:
            self.same(book.ahead(ident), ahead)
            self.same(book.behind(ident), behind)
            self.same(book.beside(ident), beside)
            self.same(book.direct(ident), direct)
        self.same(book.counts().told(), (2, 2, 1))

    def test_against_plain_sets(self):
        for maker in makers():
            book = maker.book()
            self.same(book.ids(), maker.order)
            self.same(len(book), len(maker.order))
            ahead = {ident: maker.causes(ident) for ident in maker.order}
            for ident in maker.order:
                behind = {other for other in maker.order if ident in ahead[other]}
                direct = {one for one in ahead[ident] if not any(one in ahead[other] for other in ahead[ident])}
                self.same(book.ahead(ident), sorted(ahead[ident]))
                self.same(book.behind(ident), sorted(behind))
                self.same(book.beside(ident), sorted(set(maker.order) - ahead[ident] - behind - {ident}))
                self.same(book.direct(ident), sorted(direct))

    def test_letters_themselves(self):
        letters = Maker(4, 5).go(90).letters()
        book = book_with(4, letters)
        for letter in letters:
            self.assertIs(book.letter(letter.id_of()), letter)
            self.assertIs(book.letter(ident=letter.id_of()), letter)
            self.assertIs(book.twin().letter(letter.id_of()), letter)

    def test_not_there(self):
        book = book_with(3, SMALL)
        wrong = odd_but(lambda thing: thing in ((0, 1), (1, 1)))
        wrong += [(0, 3), (0, 0), (0, -1), (2, 2), (3, 1), (-1, 1), (4, 30), [0, 1], (True, 1), (False, 1), (0, True),
                  (1, True), (0, 1, 0), (0,), "01", "0 1", SMALL[0], {0: 1}, ((0, 1),), ([0], 1), ({}, []), (0, [1]),
                  (10 ** 29, 1), (0, 10 ** 29), (None, None), ("0", "1"), book, (SMALL[0], 1)]
        before = shown(book)
        for ask in [book.letter, book.ahead, book.behind, book.beside, book.direct, book.places]:
            for thing in wrong:
                self.refuses(NotThere, thing, ask, thing)
            self.refuses(NotThere, None, ask, ident=None)
        for ask in [Book(2).letter, Book(2).ahead, Book(2).behind, Book(2).beside, Book(2).direct, Book(2).places]:
            ident = (0, 1)
            self.refuses(NotThere, ident, ask, ident)
        self.same(shown(book), before)

    def test_by_name(self):
        book = book_with(3, SMALL)
        self.same(book.ahead(ident=(1, 1)), [(0, 1)])
        self.same(book.behind(ident=(1, 1)), [(1, 2), (2, 1)])
        self.same(book.beside(ident=(1, 1)), [(0, 2)])
        self.same(book.direct(ident=(1, 1)), [(0, 1)])
        self.same(book.places(ident=(1, 1)), (1, 2))
        self.assertIs(book.is_order(thing=book.ids()), True)

    def test_lists_are_the_askers_own(self):
        book = book_with(3, SMALL)
        before = shown(book)
        for tell in [book.ids, lambda: book.ahead((2, 1)), lambda: book.behind((0, 1)), lambda: book.beside((1, 1)),
                     lambda: book.direct((2, 1))]:
            self.own_list(tell)
        self.same(shown(book), before)


class Twins(HallCase):

    def test_goes_its_own_way_both_ways_round(self):
        for first, second in [(0, 1), (1, 0)]:
            book = book_with(3, SMALL)
            both = [book, book.twin()]
            self.assertIs(type(both[1]), Book)
            self.assertIsNot(both[0], both[1])
            before = shown(book)
            self.same(shown(both[1]), before)
            both[first].keep(letter_of(0, (2, 1, 1), "x"))
            self.same(shown(both[second]), before)
            self.same(len(both[first]), 6)
            both[second].keep(letter_of(2, (2, 1, 1), "y"))
            self.same(both[first].ids(), [*before[1], (0, 3)])
            self.same(both[second].ids(), [*before[1], (2, 2)])
            self.same(both[first].counts().told(), (3, 2, 1))
            self.same(both[second].counts().told(), (2, 2, 2))

    def test_keeps_the_order(self):
        for order in [[0, 1, 2, 3, 4], [0, 2, 1, 4, 3], [0, 1, 4, 2, 3]]:
            book = book_with(3, [SMALL[k] for k in order])
            self.same(book.twin().ids(), [SMALL[k].id_of() for k in order])
            self.same(book.twin().twin().ids(), book.ids())

    def test_of_none(self):
        book = Book(5)
        twin = book.twin()
        twin.keep(letter_of(4, (0, 0, 0, 0, 0)))
        self.same(len(book), 0)
        self.same(book.ids(), [])
        self.same(twin.ids(), [(4, 1)])


class Orders(HallCase):

    def setUp(self):
        # Who goes through all orders one by one would never end.
        signal.signal(signal.SIGALRM, self.too_long)
        signal.alarm(60)
        self.addCleanup(signal.alarm, 0)

    def too_long(self, *_):
        raise AssertionError("this takes too long")

    def test_of_none(self):
        for members in range(2, 6):
            self.same(Book(members).many_orders(), 1)
            self.assertIs(Book(members).is_order([]), True)
            self.assertIs(Book(members).is_order(()), True)
            self.assertIs(Book(members).is_order([(0, 1)]), False)

    def test_of_a_few_against_all_orders(self):
        for seed in range(40):
            maker = Maker(2 + seed % 4, seed).go(40, 1 + seed % 6)
            book = maker.book()
            right = []
            for order in itertools.permutations(maker.order):
                keeps = all(maker.causes(ident) <= set(order[:place]) for place, ident in enumerate(order))
                self.assertIs(book.is_order(order), keeps)
                self.assertIs(book.is_order(list(order)), keeps)
                if keeps:
                    right.append(order)
            self.same(book.many_orders(), len(right))
            for ident in maker.order:
                places = [order.index(ident) for order in right]
                self.same(book.places(ident), (min(places), max(places)))

    def test_thirty_where_each_member_knows_only_its_own(self):
        for members, many in [(5, (6, 6, 6, 6, 6)), (5, (10, 8, 6, 4, 2)), (5, (1, 2, 3, 4, 20)), (4, (8, 8, 7, 7)),
                              (3, (10, 10, 10)), (2, (15, 15)), (2, (30, 0))]:
            letters = own_ones(members, many)
            book = book_with(members, letters)
            wanted = math.factorial(30)
            for number in many:
                wanted //= math.factorial(number)
            self.same(book.many_orders(), wanted)
            for letter in letters:
                sender, number = letter.id_of()
                self.same(book.places((sender, number)), (number - 1, 29 - (many[sender] - number)))

    def test_six_of_each_of_five_that_know_only_their_own(self):
        letters = own_ones(5, (6, 6, 6, 6, 6))
        book = book_with(5, letters)
        self.same(book.many_orders(), 1370874167589326400)
        self.same(book.twin().many_orders(), 1370874167589326400)
        # Asked behind each letter, and with one that knows all others in the place of one that knows none.
        turned, last = Book(5), letter_of(3, (6, 6, 6, 5, 6))
        for many, letter in enumerate(sorted(letters, key=lambda letter: letter.number())[:25], start=1):
            turned.keep(letter)
            wanted = math.factorial(many)
            for count in turned.counts().told():
                wanted //= math.factorial(count)
            self.same(turned.many_orders(), wanted)
        self.same(math.factorial(29) // (math.factorial(6) ** 4 * math.factorial(5)),
                  book_with(5, [one for one in letters if one.id_of() != (3, 6)] + [last]).many_orders())

    def test_two_members_by_turns(self):
        for members in range(2, 6):
            book = Book(members)
            for many, letter in enumerate(by_turns(members, 15), start=1):
                book.keep(letter)
                # The two letters of a round are beside each other, and behind all of the round ahead but one.
                self.same(book.many_orders(), step_by_step(book))
                self.same(book.many_orders(), self.of_turns(many))

    def of_turns(self, many):
        """How many orders so many letters of by_turns have, by pairs of counts."""
        ways = {(0, 0): 1}
        most = ((many + 1) // 2, many // 2)
        for first in range(most[0] + 1):
            for second in range(most[1] + 1):
                right = second >= first - 2 and first >= second - 1 and (first, second) != (0, 0)
                if right:
                    ways[first, second] = ways.get((first - 1, second), 0) + ways.get((first, second - 1), 0)
        return ways[most]

    def test_many_letters_step_by_step(self):
        for seed in range(24):
            maker = Maker(2 + seed % 4, 2000 + seed).go(600, 12 + seed % 19)
            book = Book(maker.members)
            letters = maker.letters()
            for many, letter in enumerate(letters, start=1):
                book.keep(letter)
                if many % 9 == 0 or many >= len(letters) - 1:
                    self.same(book.many_orders(), step_by_step(book))
            # A twin with a letter that knows all, and the first one with one that knows no more than its sender's last.
            before, twin = book.many_orders(), book.twin()
            if len(book) < 30:
                twin.keep(letter_of(0, book.counts().told()))
                self.same(twin.many_orders(), before)
                count = book.counts().of(1)
                row = book.letter((1, count)).counts_with().told() if count else (0,) * maker.members
                book.keep(letter_of(1, row))
                self.same(book.many_orders(), step_by_step(book))
                self.same(twin.many_orders(), before)

    def test_time_of_thirty(self):
        # The way through all beginnings one by one takes as long on a slow machine as this machine is slow.
        book = book_with(5, own_ones(5, (6, 6, 6, 6, 6)))
        self.same(step_by_step(book), book.many_orders())
        plainly = least_time(lambda: step_by_step(book))
        self.assertLess(2 * least_time(book.many_orders), plainly)
        for maker in [Maker(5, 4).go(4000), Maker(4, 5).go(4000)]:
            book = maker.book()
            self.same(len(book), 30)
            self.assertLess(least_time(book.many_orders), plainly / 2)

    def test_thirty_where_each_knows_all(self):
        for members in range(2, 6):
            counts, letters = Counts([0] * members), []
            for k in range(30):
                letters.append(Letter(k % members, k // members + 1, "tea", counts))
                counts = counts.raised(k % members)
            book = Book(members)
            for letter in letters:
                book.keep(letter)
                self.same(book.many_orders(), 1)
            self.assertIs(book.is_order(book.ids()), True)
            for place, letter in enumerate(letters):
                self.same(book.places(letter.id_of()), (place, place))
            for place in range(29):
                turned = book.ids()
                turned[place], turned[place + 1] = turned[place + 1], turned[place]
                self.assertIs(book.is_order(turned), False)

    def test_is_order_spoilt(self):
        for maker in makers():
            book, ids = maker.book(), maker.order
            self.assertIs(book.is_order(list(ids)), True)
            self.assertIs(book.is_order(tuple(ids)), True)
            for place in range(len(ids)):
                self.assertIs(book.is_order(ids[:place] + ids[place + 1:]), False)
                self.assertIs(book.is_order(ids[:place] + [ids[place]] + ids[place:]), False)
                self.assertIs(book.is_order([*ids, ids[place]]), False)
                self.assertIs(book.is_order(ids[:place] + [list(ids[place])] + ids[place + 1:]), False)
                self.assertIs(book.is_order(ids[:place] + [(*ids[place], 0)] + ids[place + 1:]), False)
                if place:
                    self.assertIs(book.is_order(ids[:place] + [ids[place - 1]] + ids[place + 1:]), False)
                turned = list(ids)
                turned[0], turned[place] = turned[place], turned[0]
                keeps = all(maker.causes(ident) <= set(turned[:at]) for at, ident in enumerate(turned))
                self.assertIs(book.is_order(turned), keeps)
            self.assertIs(book.is_order([*ids, (0, 31)]), False)

    def test_is_order_of_other_things(self):
        book = book_with(2, [letter_of(0, (0, 0)), letter_of(1, (0, 0))])
        self.assertIs(book.is_order([(1, 1), (0, 1)]), True)
        for thing in [*odd_things(), [(0, True), (1, 1)], [(False, 1), (1, 1)], [(0, 1), (True, 1)],
                      [(0, 1), (1, True)], [(0, 1), [1, 1]], {(0, 1): 1, (1, 1): 2}, "ab", book, [(0, 1), (1, 2)],
                      [(0, 1), (0, 1)], [[], []], [{}, {}], [None, None], [(0, 1), (1, 1), (0, 1)],
                      [(0, 1), (1, 1), None], [(0, 1)], [((0, 1), (1, 1))],
                      [letter_of(0, (0, 0)), letter_of(1, (0, 0))]]:
            self.assertIs(book.is_order(thing), False)
        order = [(0, 1), (1, 1)]
        book.is_order(order)
        self.same(order, [(0, 1), (1, 1)])

    def test_again_behind_one_letter_more(self):
        for seed in range(12):
            maker = Maker(2 + seed % 4, seed + 100).go(60, 7)
            book = Book(maker.members)
            for many, letter in enumerate(maker.letters(), start=1):
                book.keep(letter)
                there = maker.order[:many]
                right = [order for order in itertools.permutations(there)
                         if all(maker.causes(ident) <= set(order[:place]) for place, ident in enumerate(order))]
                self.same(book.many_orders(), len(right))
                for ident in there:
                    places = [order.index(ident) for order in right]
                    self.same(book.places(ident), (min(places), max(places)))
                self.assertIs(book.is_order(there), True)
                self.assertIs(book.is_order(there[:-1]), False)

    def test_same_answer_again(self):
        book = Maker(4, 3).go(80).book()
        self.same(shown(book), shown(book))
        self.same(shown(book), shown(Maker(4, 3).go(80).book()))


if __name__ == "__main__":
    unittest.main()
