"""Confused runs, promises [43] and [44]."""

import random
import unittest

from causehall.books import Book
from causehall.confused import confused, shows_confused
from causehall.errors import NotThere
from causehall.histories import book_of, first_wrong
from causehall.shortrows import short_of
from tests.models import causes_of
from tests.support import HallCase, Maker, book_with, counts_of, letter_of, odd_but, odd_things

# (1,1) and (2,1) are beside each other, both know (0,1); (0,2) knows both, (3,1) all but (2,1).
LETTERS = [letter_of(0, (0, 0, 0, 0), "a"), letter_of(1, (1, 0, 0, 0), "b"), letter_of(2, (1, 0, 0, 0), "c"),
           letter_of(0, (1, 1, 1, 0), "d"), letter_of(3, (1, 1, 0, 0), "e")]


def makers():
    """Histories of all numbers of members, with few letters and with thirty."""
    few = [Maker(2 + seed % 4, 1000 + seed).go(20 + 3 * seed, 3 + seed % 9) for seed in range(24)]
    return few + [Maker(2 + seed % 4, 1100 + seed).go(1500) for seed in range(8)]


def shorts(maker):
    """All ids, with the ids of their short rows."""
    for ident in maker.order:
        causes = maker.causes(ident)
        direct = [one for one in causes if not any(one in maker.causes(other) for other in causes)]
        yield ident, sorted(one for one in direct if one[0] != ident[0])


def plainly_sent(members, run):
    """The letters sent by a run of sent and got rows, in order: ids with words and rows; None where it can't be."""
    got, sent = [[] for _ in range(members)], {}
    for kind, member, *more in run:
        if kind == "sent":
            row = tuple(sum(1 for one in got[member] if one[0] == k) for k in range(members))
            ident = (member, row[member] + 1)
            sent[ident] = (more[0], row)
        else:
            ident = tuple(more)
            if kind != "got" or ident not in sent or ident in got[member]:
                return None
            if not causes_of(sent[ident][1]) <= set(got[member]):
                return None
        got[member].append(ident)
    return sent


def plainly_shows(maker, ident, cause, first, second):
    """Whether the runs, histories both, are such as [43] tells, by plain sets."""
    runs = [plainly_sent(maker.members, run) for run in (first, second)]
    for run, sent in zip((first, second), runs):
        if not sent or run[-1][0] != "sent" or list(sent)[-1] != ident or sent[ident][0] != maker.sent[ident][0]:
            return False
        if any(sent[one] != maker.sent.get(one) for one in sent if one != ident):
            return False
    if runs[0][ident] != maker.sent[ident]:
        return False
    causes = causes_of(runs[1][ident][1])
    above = {one: causes_of(runs[1][one][1]) for one in causes}
    direct = {one for one in causes if not any(one in above[other] for other in causes) and one[0] != ident[0]}
    return direct == set(dict(shorts(maker))[ident]) - {cause}


def spoilt_rows(chance, maker, run):
    """The run with one row left out, put in, put twice, exchanged, or changed."""
    at, to = chance.randrange(len(run)), chance.randrange(len(run) + 1)
    row = run[at]
    member, ident = chance.randrange(maker.members), chance.choice(maker.order)
    changed = [("sent", member, row[2]), ("sent", row[1], "zz"), (row[0], member, *row[2:]), ("got", member, *ident)]
    if row[0] == "got":
        changed += [("got", row[1], row[2], row[3] + 1), ("got", row[1], member, row[3])]
    new = chance.choice([("sent", member, maker.sent[ident][0]), ("got", member, *ident), row])
    told = ("told", member, 1, *ident)
    turned = list(run)
    turned[at], turned[to % len(run)] = turned[to % len(run)], turned[at]
    return [run[:at] + run[at + 1:], run[:to] + [new] + run[to:], run[:at] + [row] + run[at:], run + [row], turned,
            run[:at] + [chance.choice(changed)] + run[at + 1:], run[:-1], run[:to] + [told] + run[to:]]


class Confused(HallCase):

    def test_small_one(self):
        book = book_with(4, LETTERS)
        self.same(short_of(book, (0, 2))[3], ((1, 1), (2, 1)))
        told = confused(book, (0, 2), (1, 1))
        self.assertIs(type(told), tuple)
        self.same([type(run) for run in told], [list, list])
        self.same([run[-1] for run in told], [("sent", 0, "d"), ("sent", 0, "d")])
        self.same(str(book_of(4, told[0]).letter((0, 2))), "0 2 d 1 1 1 0")
        self.same(str(book_of(4, told[1]).letter((0, 2))), "0 2 d 1 0 1 0")
        other = confused(book=book, cause=(2, 1), ident=(0, 2))
        self.same(str(book_of(4, other[1]).letter((0, 2))), "0 2 d 1 1 0 0")
        # The letter of the one id has the only path to (0,1).
        alone = confused(book, (3, 1), (1, 1))
        self.same(str(book_of(4, alone[0]).letter((3, 1))), "3 1 e 1 1 0 0")
        self.same(str(book_of(4, alone[1]).letter((3, 1))), "3 1 e 0 0 0 0")

    def test_own_letter_ahead_stays_known(self):
        book = book_with(2, [letter_of(0, (0, 0), "a"), letter_of(1, (1, 0), "b"), letter_of(0, (1, 1), "c")])
        first, second = confused(book, (0, 2), (1, 1))
        self.same(str(book_of(2, first).letter((0, 2))), "0 2 c 1 1")
        self.same(str(book_of(2, second).letter((0, 2))), "0 2 c 1 0")

    def test_of_all_letters(self):
        several = 0
        for maker in makers():
            book = maker.book()
            for ident, ids in shorts(maker):
                for cause in ids:
                    told = confused(book, ident, cause)
                    self.check(maker, ident, cause, told)
                    self.assertIs(shows_confused(book, ident, cause, told), True)
                    several += len(ids) > 1
            self.same(book.ids(), maker.order)
        self.assertGreater(several, 100)

    def check(self, maker, ident, cause, told):
        """All that [43] tells of two runs."""
        self.assertIs(type(told), tuple)
        for run in told:
            self.assertIs(type(run), list)
            self.assertIsNone(first_wrong(maker.members, run))
            self.assertTrue({row[0] for row in run} <= {"sent", "got"})
            self.same(run[-1], ("sent", ident[0], maker.sent[ident][0]))
        self.assertTrue(plainly_shows(maker, ident, cause, *told))
        first, second = (plainly_sent(maker.members, run)[ident][1] for run in told)
        self.assertIn(cause, causes_of(first))
        self.assertNotIn(cause, causes_of(second))

    def test_told_lists_that_are_changed(self):
        maker = Maker(3, 7).go(80, 12)
        book = maker.book()
        for ident, ids in shorts(maker):
            for cause in ids:
                told = confused(book, ident, cause)
                for run in told:
                    run.reverse()
                    run.append("spoilt")
                again = confused(book, ident, cause)
                self.assertTrue(plainly_shows(maker, ident, cause, *again))
                self.same(again, confused(book, ident, cause))
        self.same(book.ids(), maker.order)
        self.same([str(book.letter(one)) for one in book.ids()], [str(letter) for letter in maker.letters()])

    def test_thirty_letters_of_five(self):
        # Each knows all letters of the rounds ahead of its own one.
        letters = [letter_of(k, (turn,) * 5) for turn in range(6) for k in range(5)]
        book = book_with(5, letters)
        for letter in letters:
            for cause in short_of(book, letter.id_of())[3]:
                told = confused(book, letter.id_of(), cause)
                self.assertIs(shows_confused(book, letter.id_of(), cause, told), True)

    def test_refused(self):
        book = book_with(4, LETTERS)
        right = [(0, 1), (1, 1), (2, 1), (0, 2), (3, 1)]
        wrong = [*odd_but(lambda thing: thing in right), [0, 2], (0, True), (False, 1), (0, 3), (3, 2), (4, 1), (0, 0),
                 LETTERS[0], (0, 2, "d", ((1, 1), (2, 1)))]
        for call, more in [(confused, ()), (shows_confused, (confused(book, (0, 2), (1, 1)),)), (shows_confused, (5,))]:
            for thing in wrong:
                self.refuses(NotThere, thing, call, book, thing, (1, 1), *more)
                self.refuses(NotThere, thing, call, book, thing, "x", *more)
                self.refuses(NotThere, thing, call, book, thing, thing, *more)
                self.refuses(NotThere, thing, call, book, (0, 2), thing, *more)
            for ident, cause in [((0, 2), (0, 1)), ((0, 2), (0, 2)), ((0, 2), (3, 1)), ((0, 1), (0, 1)),
                                 ((1, 1), (1, 1)), ((3, 1), (0, 1)), ((3, 1), (2, 1)), ((0, 2), [1, 1]),
                                 ((0, 2), (True, 1)), ((0, 2), (1, True)), ((0, 2), (2, True)), ((0, 1), (1, 1))]:
                self.refuses(NotThere, cause, call, book, ident, cause, *more)
            self.refuses_of(NotThere, (0, 1), call, Book(2), (0, 1), (0, 1), *more)
        self.same(len(book), 5)

    def test_the_id_is_looked_at_first(self):
        book = book_with(4, LETTERS)
        ident, cause = (5, 5), (6, 6)
        self.refuses(NotThere, ident, confused, book, ident, cause)
        self.refuses(NotThere, ident, shows_confused, book, ident, cause, confused(book, (0, 2), (1, 1)))
        refused = self.refusal(NotThere, shows_confused, thing=5, cause=cause, ident=(0, 2), book=book)
        self.assertIs(refused.found, cause)
        self.assertIs(self.refusal(NotThere, confused, cause=cause, ident=ident, book=book).found, ident)


class Shows(HallCase):

    def test_lists_and_tuples(self):
        book = book_with(4, LETTERS)
        first, second = confused(book, (0, 2), (1, 1))
        for thing in [(first, second), (tuple(first), second), (first, tuple(second)), (tuple(first), tuple(second))]:
            self.assertIs(shows_confused(book, (0, 2), (1, 1), thing), True)
            self.assertIs(shows_confused(thing=thing, cause=(1, 1), book=book, ident=(0, 2)), True)
            self.assertIs(shows_confused(book, (0, 2), (2, 1), thing), False)
            self.assertIs(shows_confused(book, (3, 1), (1, 1), thing), False)

    def test_of_another_kind_at_each_depth(self):
        book = book_with(4, LETTERS)
        first, second = told = confused(book, (0, 2), (1, 1))
        things = odd_things()
        wrong = [*things, list(told), (first,), (first, second, second), (second, first), (first, first), ((told),),
                 (second, second), [first, second], {0: first, 1: second}, ([first], second), ((), second), (first, []),
                 ("", ""), ([], []), ((), ())]
        wrong += [(thing, second) for thing in things] + [(first, thing) for thing in things]
        for at in range(len(first)):
            for thing in [*things, list(first[at]), first[at][:-1], (*first[at], 1)]:
                wrong.append((first[:at] + [thing] + first[at + 1:], second))
        for at in range(len(second)):
            for thing in [*things, list(second[at]), second[at][:-1], (*second[at], 1)]:
                wrong.append((first, second[:at] + [thing] + second[at + 1:]))
        for thing in wrong:
            self.assertIs(shows_confused(book, (0, 2), (1, 1), thing), False, thing)

    def test_truths_in_the_place_of_numbers(self):
        book = book_with(4, LETTERS)
        told = confused(book, (0, 2), (1, 1))
        for which in range(2):
            for at, row in enumerate(told[which]):
                for place, part in enumerate(row):
                    if part in (0, 1):
                        spoilt = [list(told[0]), list(told[1])]
                        spoilt[which][at] = row[:place] + (bool(part),) + row[place + 1:]
                        self.assertIs(shows_confused(book, (0, 2), (1, 1), tuple(spoilt)), False)

    def test_other_letters_of_the_book_may_be_sent(self):
        book = book_with(4, LETTERS)
        first = [("sent", 0, "a"), ("got", 1, 0, 1), ("sent", 1, "b"), ("got", 2, 0, 1), ("sent", 2, "c"),
                 ("got", 3, 0, 1), ("got", 3, 1, 1), ("sent", 3, "e"), ("got", 0, 1, 1), ("got", 0, 2, 1),
                 ("sent", 0, "d")]
        second = [row for row in first if row != ("got", 0, 1, 1)]
        self.assertIs(shows_confused(book, (0, 2), (1, 1), (first, second)), True)
        self.assertIs(shows_confused(book, (0, 2), (2, 1), (first, second)), False)
        self.assertIs(shows_confused(book, (0, 2), (1, 1), (second, first)), False)
        unknown = second[:-1] + [("sent", 1, "b"), ("sent", 0, "d")]
        self.assertIs(shows_confused(book, (0, 2), (1, 1), (first, unknown)), False)
        other_word = [("sent", 3, "x") if row == ("sent", 3, "e") else row for row in second]
        self.assertIs(shows_confused(book, (0, 2), (1, 1), (first, other_word)), False)
        other_row = [row for row in second if row != ("got", 3, 1, 1)]
        self.assertIs(shows_confused(book, (0, 2), (1, 1), (first, other_row)), False)
        last_word = second[:-1] + [("sent", 0, "x")]
        self.assertIs(shows_confused(book, (0, 2), (1, 1), (first, last_word)), False)
        behind = second + [("got", 3, 2, 1)]
        self.assertIs(shows_confused(book, (0, 2), (1, 1), (first, behind)), False)
        again = second + [("sent", 0, "d")]
        self.assertIs(shows_confused(book, (0, 2), (1, 1), (first, again)), False)
        told = [("sent", 0, "a"), ("told", 0, 1, 0, 1), *second[1:]]
        self.assertIs(shows_confused(book, (0, 2), (1, 1), (first, told)), False)

    def test_second_row_may_leave_out_no_more(self):
        # (0,1) knows (1,1), (2,1) and (3,1), none of which knows another one.
        rows = [(1, (0, 0, 0, 0)), (2, (0, 0, 0, 0)), (3, (0, 0, 0, 0)), (0, (0, 1, 1, 1))]
        book = book_with(4, [letter_of(sender, row, "w") for sender, row in rows])
        sends = [("sent", 1, "w"), ("sent", 2, "w"), ("sent", 3, "w")]
        gots = {k: ("got", 0, k, 1) for k in (1, 2, 3)}
        last = ("sent", 0, "w")
        first = [*sends, *gots.values(), last]
        for has in [(), (1,), (2,), (3,), (1, 2), (1, 3), (2, 3), (1, 2, 3)]:
            second = [*sends, *[gots[k] for k in has], last]
            for cause in (1, 2, 3):
                wanted = sorted((*has, cause)) == [1, 2, 3] and cause not in has
                self.assertIs(shows_confused(book, (0, 1), (cause, 1), (first, second)), wanted)

    def test_runs_that_are_spoilt(self):
        right = wrong = 0
        for maker in makers()[:22]:
            book, chance = maker.book(), random.Random(len(maker.rows))
            for ident, ids in shorts(maker):
                for cause in ids[:2]:
                    told = confused(book, ident, cause)
                    for which in range(2):
                        for run in spoilt_rows(chance, maker, told[which]):
                            runs = (run, told[1]) if which == 0 else (told[0], run)
                            wanted = plainly_shows(maker, ident, cause, *runs)
                            self.assertIs(shows_confused(book, ident, cause, runs), wanted)
                            right, wrong = right + wanted, wrong + (not wanted)
        self.assertGreater(right, 50)
        self.assertGreater(wrong, 800)

    def test_more_rows_than_a_history_has(self):
        # Thirty letters that all five members know, and a last one of a Book without more.
        book = book_with(2, [letter_of(0, (0, 0), "a"), letter_of(1, (1, 0), "b")])
        first, second = confused(book, (1, 1), (0, 1))
        self.assertIs(shows_confused(book, (1, 1), (0, 1), (first, second)), True)
        for many in [400, 401, 500]:
            long = [("got", 1, 0, 1)] * (many - len(first)) + first
            self.assertIs(shows_confused(book, (1, 1), (0, 1), (long, second)), False)

    def test_things_are_not_changed(self):
        book = book_with(4, LETTERS)
        thing = confused(book, (0, 2), (1, 1))
        shows_confused(book, (0, 2), (1, 1), thing)
        self.same(thing, confused(book, (0, 2), (1, 1)))
        self.same(counts_of(2, 1, 1, 1), book.counts())


if __name__ == "__main__":
    unittest.main()
