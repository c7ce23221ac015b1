"""Seats, promises [81] to [86]."""

import random
import unittest

from causehall.errors import NoMember, NoNumber, NoRow, NoSeat, NoThing
from causehall.seats import Seat
from tests.models import SeatModel
from tests.support import (BIG, HallCase, is_number, no_hall_sizes, no_members, odd_but, odd_things, spoilt)

A, B, C, D = (0, 1), (1, 1), (0, 2), (2, 1)


def shown(seat):
    """All that a Seat tells."""
    return (seat.member(), seat.term(), seat.hop(), seat.row(), seat.row_term(), seat.sure(), seat.has_seat(),
            seat.answered(), seat.state())


def no_numbers():
    """Things that are no whole number from 0 on."""
    return [*odd_but(lambda thing: is_number(thing, 0)), -1, True, False]


class SeatCase(HallCase):

    def stands(self, seat, *state):
        """The Seat stands just so, and tells so part by part."""
        self.same(seat.state(), state)
        term, hop, row_term, row, sure, seated, answers, _ = state
        self.same((seat.term(), seat.hop(), seat.row_term(), seat.row(), seat.sure(), seat.has_seat()),
                  (term, hop, row_term, list(row), sure, seated))
        self.same(seat.answered(), None if answers is None else [answer[0] for answer in answers])

    def seat(self, members, member, *things):
        """A Seat that heard these things, each a start and a thing."""
        seat = Seat(members, member)
        for start, thing in things:
            seat.hear(start, thing)
        return seat


class Making(SeatCase):

    def test_at_first(self):
        for members in range(2, 6):
            for member in range(members):
                for seat in [Seat(members, member), Seat(member=member, members=members)]:
                    self.same(seat.member(), member)
                    self.stands(seat, 0, 0, 0, (), 0, member == 0, None, ())

    def test_refused(self):
        for thing in [*no_hall_sizes(), 0, 1, 6, True, "2", None]:
            self.refuses(NoNumber, thing, Seat, thing, 0)
            self.refuses(NoNumber, thing, Seat, thing, "x")
        for members in range(2, 6):
            for thing in [*no_members(members), members, -1, True, False, BIG]:
                self.refuses(NoMember, thing, Seat, members, thing)
                self.refuses(NoMember, thing, Seat, member=thing, members=members)


class OfItself(SeatCase):

    def test_call(self):
        for members in range(2, 6):
            for member in range(members):
                seat = Seat(members, member)
                for turn in range(3):
                    term = member + members * (turn + (member == 0))
                    told = seat.call()
                    self.same(told, [(k, ("call", term)) for k in range(members) if k != member])
                    self.stands(seat, term, 0, 0, (), 0, False, ((member, 0, (), 0),), ())

    def test_call_from_terms_of_others(self):
        for t, term in [(0, 1), (1, 4), (2, 4), (3, 4), (4, 7), (5, 7), (6, 7), (10 ** 29, 10 ** 29 + 3)]:
            seat = self.seat(3, 1, (2, ("row", t, 5, (A, B), 1)))
            self.same(seat.hop(), 5)
            self.same(seat.call(), [(0, ("call", term)), (2, ("call", term))])
            self.stands(seat, term, 0, t, (A, B), 1, False, ((1, t, (A, B), 1),), ())

    def test_call_leaves_the_seat(self):
        seat = Seat(3, 0)
        seat.give_numbers([A, B])
        seat.hear(1, ("has", 0, 1))
        self.stands(seat, 0, 0, 0, (A, B), 1, True, None, ((1, 1),))
        self.same(seat.call(), [(1, ("call", 3)), (2, ("call", 3))])
        self.stands(seat, 3, 0, 0, (A, B), 1, False, ((0, 0, (A, B), 1),), ())

    def test_hand(self):
        seat = Seat(3, 0)
        seat.give_numbers([A, B])
        seat.hear(2, ("has", 0, 1))
        self.same(seat.hand(2), [(2, ("seat", 0, 1, (A, B), 1))])
        self.stands(seat, 0, 1, 0, (A, B), 1, False, None, ())
        self.refuses_of(NoSeat, 0, seat.hand, 2)
        seat = self.seat(3, 1, (0, ("seat", 2, 7, (), 0)))
        self.same(seat.hand(other=0), [(0, ("seat", 2, 8, (), 0))])
        self.stands(seat, 2, 8, 2, (), 0, False, None, ())

    def test_again(self):
        seat = Seat(4, 0)
        self.same(seat.again(), [(k, ("row", 0, 0, (), 0)) for k in (1, 2, 3)])
        seat = self.seat(4, 2, (0, ("seat", 3, 1, (A, B), 1)))
        before = shown(seat)
        self.same(seat.again(), [(k, ("row", 3, 1, (A, B), 1)) for k in (0, 1, 3)])
        self.same(shown(seat), before)

    def test_give_numbers(self):
        seat = Seat(3, 0)
        self.same(seat.give_numbers([]), [])
        self.same(seat.give_numbers([B, A, B]), [(k, ("row", 0, 0, (B, A), 0)) for k in (1, 2)])
        self.same(seat.give_numbers((A, B)), [])
        self.stands(seat, 0, 0, 0, (B, A), 0, True, None, ())
        told = seat.give_numbers(idents=(C, A, (2, 10 ** 29), C))
        self.same(told, [(k, ("row", 0, 0, (B, A, C, (2, 10 ** 29)), 0)) for k in (1, 2)])

    def test_give_numbers_without_the_seat(self):
        for seat in [Seat(3, 1), Seat(3, 0).kept()]:
            self.same(seat.give_numbers([A, B]), [])
            self.same(seat.row(), [])

    def test_no_row(self):
        for seat in [Seat(3, 0), Seat(3, 1)]:
            seat.give_numbers([A])
            before = shown(seat)
            right = [[], (), [A], (A,), [A, A]]
            for thing in [*odd_but(lambda thing: thing in right), (0, 1), [[0, 1]], [A, None], [A, (3, 1)], [A, (0, 0)],
                          [(0, True)], [(False, 1)], [A, (-1, 1)], {A: 1}, {}, "", "ab", None, [A, (0, 1, 2)], [()]]:
                self.refuses(NoRow, thing, seat.give_numbers, thing)
                self.refuses(NoRow, thing, seat.give_numbers, idents=thing)
            self.same(shown(seat), before)

    def test_no_other_member(self):
        for members in range(2, 6):
            for seat in [Seat(members, 0), Seat(members, members - 1), Seat(members, 0).kept()]:
                before = shown(seat)
                for thing in [*no_members(members), members, -1, True, False]:
                    self.refuses(NoMember, thing, seat.hand, thing)
                    self.refuses(NoMember, thing, seat.hear, thing, ("has", 0, 0))
                    self.refuses(NoMember, thing, seat.hear, thing, "x")
                self.refuses_of(NoMember, seat.member(), seat.hand, seat.member())
                self.refuses_of(NoMember, seat.member(), seat.hear, seat.member(), ("has", 0, 0))
                self.refuses_of(NoMember, seat.member(), seat.hand, other=seat.member())
                self.same(shown(seat), before)

    def test_no_seat(self):
        for members in range(2, 6):
            for member in range(members):
                seats = [Seat(members, member).kept(), Seat(members, member)]
                seats[1].call()
                for seat in seats:
                    before = shown(seat)
                    self.refuses_of(NoSeat, member, seat.again)
                    self.refuses_of(NoSeat, member, seat.hand, (member + 1) % members)
                    self.same(shown(seat), before)


class Hearing(SeatCase):

    def test_no_thing(self):
        for seat in [Seat(3, 0), self.seat(3, 1, (0, ("seat", 3, 1, (A, B), 1)))]:
            before = shown(seat)
            no_row = odd_but(lambda thing: thing == () or thing in (((0, 1),),))
            no_row += [[A], (A, A), (A, B, A), (A, (3, 1)), (A, (0, 0)), ((0, True),), ((False, 1),), (A, None)]
            no_number, no_word = no_numbers(), odd_things()
            wrong = [*odd_things(), ("seats", 9, 0, (), 0), ("told", 5, 0, (), 0), ("call",), ("has", 9), ("yes", 9, 0),
                     ("letter", 1, 1, "a", (0, 0, 0)), ("ask", (0, 0, 0)), "call", ["call", 5], (("call", 5),)]
            wrong += spoilt(("call", 5), [no_word, no_number])
            wrong += spoilt(("has", 3, 1), [no_word, no_number, no_number])
            for word in ("yes", "row", "seat"):
                wrong += spoilt((word, 9, 9, (A, B, C), 2), [no_word, no_number, no_number, no_row, [*no_number, 4]])
                wrong += [(word, 9, 9, (A, B, C), 4), (word, 9, 9, (), 1), (word, 9, 9, (A,), 2), (word, 9, 9, (A,), 9)]
            for thing in wrong:
                self.refuses(NoThing, thing, seat.hear, 2, thing)
            self.refuses_of(NoThing, "x", seat.hear, start=2, thing="x")
            self.same(shown(seat), before)

    def test_calls_belong_to_the_one_that_calls(self):
        for members in range(2, 6):
            for start in range(1, members):
                for t in [*range(12), BIG]:
                    seat = Seat(members, 0)
                    thing = ("call", t)
                    if t % members == start:
                        self.same(seat.hear(start, thing), [(start, ("yes", t, 0, (), 0))])
                        self.same(seat.term(), t)
                    else:
                        self.refuses(NoThing, thing, seat.hear, start, thing)
                        self.same(seat.term(), 0)

    def test_call(self):
        # Of a lesser term; of its own one, with a row of it and with one of a lesser; of a greater one.
        row = (1, ("row", 4, 2, (A, B), 1))
        seat = self.seat(3, 0, row)
        before = shown(seat)
        self.same(seat.hear(1, ("call", 1)), [])
        self.same(seat.hear(1, ("call", 4)), [])
        self.same(shown(seat), before)
        self.same(seat.hear(2, ("call", 5)), [(2, ("yes", 5, 4, (A, B), 1))])
        self.stands(seat, 5, 0, 4, (A, B), 1, False, None, ())
        self.same(seat.hear(start=2, thing=("call", 5)), [(2, ("yes", 5, 4, (A, B), 1))])
        self.same(seat.hear(1, ("call", 4)), [])
        self.stands(seat, 5, 0, 4, (A, B), 1, False, None, ())

    def test_call_takes_the_seat_and_the_call(self):
        seat = Seat(3, 0)
        seat.give_numbers([A])
        seat.hear(1, ("has", 0, 0))
        self.same(seat.hear(1, ("call", 1)), [(1, ("yes", 1, 0, (A,), 0))])
        self.stands(seat, 1, 0, 0, (A,), 0, False, None, ())
        seat.call()
        self.same(seat.answered(), [0])
        self.same(seat.hear(2, ("call", 2)), [])
        self.same(seat.answered(), [0])
        self.same(seat.hear(1, ("call", 4)), [(1, ("yes", 4, 0, (A,), 0))])
        self.stands(seat, 4, 0, 0, (A,), 0, False, None, ())

    def test_call_of_the_same_term_leaves_all_as_it_was(self):
        # A hop in a term whose row is of a lesser one: heard by handing on things that nobody tells.
        seat = self.seat(3, 0, (1, ("call", 1)))
        before = shown(seat)
        self.same(seat.hear(1, ("call", 1)), [(1, ("yes", 1, 0, (), 0))])
        self.same(shown(seat), before)

    def test_yes(self):
        seat = Seat(5, 2)
        seat.call()
        self.same(seat.hear(0, ("yes", 2, 1, (A, B), 1)), [])
        self.same(seat.answered(), [0, 2])
        self.stands(seat, 2, 0, 0, (), 0, False, ((0, 1, (A, B), 1), (2, 0, (), 0)), ())
        # Again of the same one, of another term: nothing.
        for start, thing in [(0, ("yes", 2, 1, (A, B, C), 3)), (1, ("yes", 1, 1, (), 0)), (1, ("yes", 7, 1, (), 0))]:
            before = shown(seat)
            self.same(seat.hear(start, thing), [])
            self.same(shown(seat), before)
        told = seat.hear(4, ("yes", 2, 0, (A, B, C), 2))
        self.same(told, [(k, ("row", 2, 0, (A, B), 2)) for k in (0, 1, 3, 4)])
        self.stands(seat, 2, 0, 2, (A, B), 2, True, None, ())
        before = shown(seat)
        self.same(seat.hear(1, ("yes", 2, 9, (C,), 1)), [])
        self.same(shown(seat), before)

    def test_which_row_is_taken(self):
        # The greatest term of a row, then the longest, then the least member; its own answer counts as another.
        for own, answers, row in [
                ((1, (A,)), [(0, 2, (B,)), (2, 1, (A, B, C))], (B,)),
                ((1, (A,)), [(0, 0, (B, C)), (2, 1, (A, B))], (A, B)),
                ((1, (A, C)), [(0, 1, (B, C)), (2, 1, (C, A))], (B, C)),
                ((1, (A, C)), [(2, 1, (B, C)), (4, 1, (C, A))], (A, C)),
                ((1, (A,)), [(4, 3, (B, C)), (2, 3, (C, B))], (C, B)),
                ((3, (A,)), [(4, 2, (B, C)), (2, 1, (C, B))], (A,)),
                ((0, ()), [(3, 0, ()), (4, 0, ())], ())]:
            seat = self.seat(5, 1, (0, ("row", own[0], 0, own[1], 0)))
            seat.call()
            term = seat.term()
            for start, e, its in answers:
                told = seat.hear(start, ("yes", term, e, its, 0))
            self.same(told, [(k, ("row", term, 0, row, 0)) for k in (0, 2, 3, 4)])
            self.stands(seat, term, 0, term, row, 0, True, None, ())

    def test_most_that_any_answer_told_are_sure(self):
        for sures, wanted in [((0, 2), 2), ((1, 0), 1), ((2, 3), 3), ((0, 0), 1)]:
            seat = self.seat(5, 1, (0, ("row", 0, 0, (A, B, C), 1)))
            seat.call()
            for start, sure in zip((2, 3), sures):
                seat.hear(start, ("yes", 1, 0, (A, B, C), sure))
            self.same(seat.sure(), wanted)
        # Never more than the row has.
        seat = self.seat(3, 1, (0, ("row", 0, 0, (A, B, C), 3)))
        seat.call()
        self.same(seat.hear(2, ("yes", 1, 1, (A,), 0)), [(k, ("row", 1, 0, (A,), 1)) for k in (0, 2)])
        self.same(seat.sure(), 1)

    def test_most_of_all_members(self):
        for members, needed in [(2, 1), (3, 1), (4, 2), (5, 2)]:
            seat = Seat(members, 1)
            seat.call()
            others = [k for k in range(members) if k != 1]
            for at, start in enumerate(others[:needed], start=1):
                self.assertIs(seat.has_seat(), False)
                self.same(len(seat.hear(start, ("yes", 1, 0, (), 0))), members - 1 if at == needed else 0)
            self.assertIs(seat.has_seat(), True)

    def test_yes_without_a_call(self):
        for seat in [Seat(3, 0), Seat(3, 1), self.seat(3, 1, (2, ("row", 1, 0, (A,), 1)))]:
            before = shown(seat)
            for t in range(4):
                self.same(seat.hear(2, ("yes", t, 5, (A, B), 2)), [])
            self.same(shown(seat), before)

    def test_row_of_a_lesser_term(self):
        seat = self.seat(3, 1, (0, ("row", 4, 2, (A,), 1)))
        before = shown(seat)
        self.same(seat.hear(2, ("row", 3, 9, (A, B, C), 3)), [])
        self.same(shown(seat), before)

    def test_row_of_a_greater_term(self):
        seat = self.seat(3, 1, (0, ("seat", 3, 2, (A, B, C), 2)), (0, ("has", 3, 1)))
        self.same(seat.hear(2, ("row", 5, 1, (C,), 0)), [(2, ("has", 5, 1))])
        # Shorter than what was sure: as many as the row has.
        self.stands(seat, 5, 1, 5, (C,), 1, False, None, ())
        seat = Seat(3, 1)
        seat.call()
        self.same(seat.hear(0, ("row", 3, 4, (), 0)), [(0, ("has", 3, 0))])
        self.stands(seat, 3, 4, 3, (), 0, False, None, ())

    def test_row_of_its_own_term(self):
        for length, hop, sure, wanted in [
                (1, 5, 1, ((A, B), 5, 1)), (2, 1, 2, ((A, B), 2, 2)), (2, 2, 0, ((A, B), 2, 1)),
                (3, 3, 0, ((A, B, C), 3, 1)), (3, 2, 3, ((A, B, C), 2, 3)), (0, 2, 0, ((A, B), 2, 1))]:
            seat = self.seat(3, 1, (0, ("row", 4, 2, (A, B), 1)))
            told = seat.hear(2, ("row", 4, hop, (A, B, C)[:length], sure))
            row, new_hop, new_sure = wanted
            self.same(told, [(2, ("has", 4, len(row)))])
            self.stands(seat, 4, new_hop, 4, row, new_sure, False, None, ())

    def test_row_of_its_own_term_as_long_stays_its_own(self):
        seat = self.seat(3, 1, (0, ("row", 4, 2, (A, B), 1)), (0, ("row", 4, 2, (B, C), 0)))
        self.same(seat.row(), [A, B])

    def test_row_where_its_own_is_of_a_lesser_term(self):
        # It heard the call of term 2, and has a longer row of term 1.
        seat = self.seat(3, 1, (0, ("row", 1, 0, (A, B, C), 1)), (2, ("call", 2)))
        self.same(seat.hear(2, ("row", 2, 0, (D,), 0)), [(2, ("has", 2, 1))])
        self.stands(seat, 2, 0, 2, (D,), 1, False, None, ())

    def test_row_ends_a_call_but_not_the_seat_of_its_term(self):
        seat = Seat(3, 1)
        seat.call()
        self.same(seat.hear(0, ("row", 0, 3, (A,), 1)), [])
        self.same(seat.answered(), [1])
        self.same(seat.hear(0, ("row", 1, 3, (A,), 1)), [(0, ("has", 1, 1))])
        self.stands(seat, 1, 3, 1, (A,), 1, False, None, ())
        seat = Seat(3, 0)
        seat.hear(1, ("has", 0, 0))
        self.same(seat.hear(2, ("row", 0, 1, (A, B), 1)), [(2, ("has", 0, 2))])
        self.stands(seat, 0, 1, 0, (A, B), 1, True, None, ((1, 0),))

    def test_more_sure_than_the_row_has(self):
        # The longer row of the term stays; what is sure by the other one is more than it has.
        seat = self.seat(3, 1, (0, ("row", 4, 0, (A, B), 2)), (2, ("call", 5)), (2, ("row", 5, 0, (A,), 1)))
        self.stands(seat, 5, 0, 5, (A,), 1, False, None, ())

    def test_has(self):
        seat = Seat(5, 0)
        seat.give_numbers([A, B, C])
        self.same(seat.hear(3, ("has", 0, 2)), [])
        self.stands(seat, 0, 0, 0, (A, B, C), 0, True, None, ((3, 2),))
        self.same(seat.hear(1, ("has", 0, 1)), [(k, ("row", 0, 0, (A, B, C), 1)) for k in (1, 2, 3, 4)])
        self.stands(seat, 0, 0, 0, (A, B, C), 1, True, None, ((1, 1), (3, 2)))
        # Less than it told ahead, and as much: nothing; of another term: nothing.
        for start, thing in [(3, ("has", 0, 1)), (3, ("has", 0, 2)), (4, ("has", 0, 0)), (2, ("has", 1, 3))]:
            self.same(seat.hear(start, thing), [])
        self.stands(seat, 0, 0, 0, (A, B, C), 1, True, None, ((1, 1), (3, 2), (4, 0)))
        self.same(seat.hear(4, ("has", 0, 3)), [(k, ("row", 0, 0, (A, B, C), 2)) for k in (1, 2, 3, 4)])
        self.same(seat.hear(1, ("has", 0, 99)), [(k, ("row", 0, 0, (A, B, C), 3)) for k in (1, 2, 3, 4)])
        self.same(seat.hear(3, ("has", 0, 99)), [])
        self.stands(seat, 0, 0, 0, (A, B, C), 3, True, None, ((1, 99), (3, 99), (4, 3)))

    def test_lengths_above_its_own(self):
        seat = Seat(3, 0)
        seat.give_numbers([A])
        self.same(seat.hear(1, ("has", 0, BIG)), [(k, ("row", 0, 0, (A,), 1)) for k in (1, 2)])
        self.same(seat.hear(2, ("has", 0, 7)), [])
        self.stands(seat, 0, 0, 0, (A,), 1, True, None, ((1, BIG), (2, 7)))

    def test_never_fewer_sure_than_there_were(self):
        seat = self.seat(3, 1, (0, ("seat", 3, 1, (A, B), 2)))
        for length in (0, 1):
            self.same(seat.hear(0, ("has", 3, length)), [])
            self.same(seat.sure(), 2)

    def test_has_without_the_seat(self):
        for seat in [Seat(3, 1), Seat(3, 0).kept(), self.seat(3, 1, (0, ("row", 3, 0, (A,), 0)))]:
            before = shown(seat)
            for t in range(5):
                self.same(seat.hear(2, ("has", t, 1)), [])
            self.same(shown(seat), before)

    def test_has_in_two_members(self):
        seat = Seat(2, 0)
        seat.give_numbers([A])
        self.same(seat.sure(), 0)
        self.same(seat.hear(1, ("has", 0, 1)), [(1, ("row", 0, 0, (A,), 1))])

    def test_has_in_four_members_needs_three(self):
        seat = Seat(4, 0)
        seat.give_numbers([A, B])
        self.same(seat.hear(1, ("has", 0, 2)), [])
        self.same(seat.hear(2, ("has", 0, 1)), [(k, ("row", 0, 0, (A, B), 1)) for k in (1, 2, 3)])

    def test_seat(self):
        for t, h, taken in [(3, 9, False), (4, 1, False), (4, 2, False), (4, 3, True), (5, 0, True), (5, 9, True)]:
            seat = self.seat(3, 1, (0, ("row", 4, 2, (A, B), 2)))
            before = shown(seat)
            told = seat.hear(2, ("seat", t, h, (C,), 0))
            if taken:
                self.same(told, [(k, ("row", t, h, (C,), 1)) for k in (0, 2)])
                self.stands(seat, t, h, t, (C,), 1, True, None, ())
            else:
                self.same(told, [])
                self.same(shown(seat), before)

    def test_seat_of_what_is_sure(self):
        for own, its, wanted in [(1, 2, 2), (2, 1, 2), (0, 0, 0)]:
            seat = self.seat(3, 1, (0, ("row", 4, 2, (A, B), own)))
            seat.hear(2, ("seat", 4, 3, (A, B, C), its))
            self.stands(seat, 4, 3, 4, (A, B, C), wanted, True, None, ())

    def test_seat_ends_call_and_lengths(self):
        seat = Seat(3, 1)
        seat.call()
        self.same(seat.hear(0, ("seat", 0, 5, (A,), 1)), [])
        self.same(seat.answered(), [1])
        seat.hear(0, ("seat", 1, 1, (A,), 1))
        self.stands(seat, 1, 1, 1, (A,), 1, True, None, ())
        seat.hear(2, ("has", 1, 1))
        self.same(seat.state()[7], ((2, 1),))
        seat.hear(2, ("seat", 1, 2, (A, B), 0))
        self.stands(seat, 1, 2, 1, (A, B), 1, True, None, ())

    def test_handed_in_is_not_changed(self):
        seat = Seat(3, 0)
        idents = [A, B]
        seat.give_numbers(idents)
        idents.append(C)
        self.same(seat.row(), [A, B])


class Keeping(SeatCase):

    def test_kept(self):
        for members in range(2, 6):
            seat = Seat(members, 0)
            seat.give_numbers([A, C])
            seat.hear(1, ("has", 0, 1))
            before = shown(seat)
            kept = seat.kept()
            self.assertIs(type(kept), Seat)
            self.same(kept.member(), 0)
            self.stands(kept, 0, 0, 0, (A, C), seat.sure(), False, None, ())
            kept.call()
            self.stands(kept.kept(), members, 0, 0, (A, C), seat.sure(), False, None, ())
            self.same(shown(seat), before)
        seat = self.seat(3, 1, (0, ("seat", 7, 3, (A, B), 1)), (2, ("call", 8)))
        self.stands(seat.kept(), 8, 0, 7, (A, B), 1, False, None, ())

    def test_kept_goes_its_own_way(self):
        seat = Seat(3, 0)
        seat.give_numbers([A])
        kept = seat.kept()
        before = shown(kept)
        seat.give_numbers([B])
        seat.hear(1, ("call", 4))
        self.same(shown(kept), before)
        before = shown(seat)
        kept.hear(2, ("row", 5, 0, (A, D), 2))
        self.same(shown(seat), before)

    def test_twins_both_ways_round(self):
        seats = [self.seat(3, 0, (1, ("has", 0, 2))), self.seat(3, 1, (0, ("row", 3, 1, (A,), 1)))]
        seats[0].give_numbers([A])
        seats[1].call()
        five = Seat(5, 1)
        five.call()
        five.hear(0, ("yes", 1, 0, (A,), 1))
        for base in [*seats, five]:
            for first, second in [(0, 1), (1, 0)]:
                both = [base.twin()]
                both.append(both[0].twin())
                self.assertIs(type(both[1]), Seat)
                before = shown(base)
                self.same([shown(one) for one in both], [before, before])
                both[first].hear(2, ("yes", both[first].term(), 0, (A,), 1))
                both[first].hear(2, ("has", both[first].term(), 1))
                both[first].give_numbers([B])
                self.same(shown(both[second]), before)
                both[first].call()
                self.same(shown(both[second]), before)
                both[second].hear(2, ("row", 11, 4, (A, B, C), 3))
                self.same(both[second].state(), (11, 4, 11, (A, B, C), 3, False, None, ()))
                self.same(shown(base), before)

    def test_told_lists_are_the_askers_own(self):
        seat = Seat(3, 0)
        seat.give_numbers([A, B])
        before = shown(seat)
        self.own_list(seat.row)
        self.own_list(seat.again)
        self.same(shown(seat), before)
        seat.call()
        self.own_list(seat.answered)


class Random(SeatCase):

    def test_things_at_random(self):
        for seed in range(150):
            chance, members = random.Random(seed), 2 + seed % 4
            member = chance.randrange(members)
            both = [(Seat(members, member), SeatModel(members, member))]
            for at in range(60):
                seat, model = chance.choice(both)
                self.step(chance, seat, model)
                if at % 20 == 9:
                    both.append((seat.twin(), model.twin()))
                    both.append((seat.kept(), model.kept()))
                for one, other in both:
                    self.stands(one, *other.state())

    def step(self, chance, seat, model):
        """One deed or thing of any kind, of terms, hops, rows and lengths around its own."""
        member, members = model.member, model.members
        other = chance.choice([k for k in range(members) if k != member])
        kind = chance.choice(["call", "hand", "again", "give", "hear", "hear", "hear", "hear", "hear", "hear"])
        if kind == "call":
            self.same(seat.call(), model.call())
        elif kind in ("hand", "again"):
            args = (other,) if kind == "hand" else ()
            if model.seated:
                self.same(getattr(seat, kind)(*args), getattr(model, kind)(*args))
            else:
                self.refuses_of(NoSeat, member, getattr(seat, kind), *args)
        elif kind == "give":
            idents = [(chance.randrange(members), chance.randint(1, 3)) for _ in range(chance.randrange(5))]
            self.same(seat.give_numbers(idents), model.give_numbers(idents))
        else:
            thing = self.thing(chance, model, other)
            self.same(seat.hear(other, thing), model.hear(other, thing))

    def thing(self, chance, model, other):
        """A thing that the other one may tell."""
        term = max(model.term + chance.choice([-1, 0, 0, 0, 1, 2]), 0)
        hop = max(model.hop + chance.choice([-1, 0, 1, 2]), 0)
        row = list(model.row) if chance.random() < 0.6 else []
        row = row[:chance.randint(0, len(row) + 2)]
        row += [(chance.randrange(model.members), chance.randint(1, 4)) for _ in range(chance.randrange(4))]
        row = tuple(dict.fromkeys(row))
        sure = chance.randint(0, len(row))
        word = chance.choice(["call", "yes", "yes", "row", "has", "seat"])
        if word == "call":
            while term % model.members != other:
                term += 1
            return ("call", term)
        if word == "has":
            return ("has", term, chance.randint(0, len(model.row) + 1))
        if word == "yes":
            return ("yes", term, chance.randint(0, 3), row, sure)
        return (word, term, hop, row, sure)


class Together(SeatCase):

    def test_roads_that_lose_double_and_turn(self):
        sure_ones = handed = 0
        for seed in range(300):
            chance, members = random.Random(seed), 2 + seed % 4
            seats = [Seat(members, member) for member in range(members)]
            ways, rows, sure, holders, number = [], {}, [], {}, [0] * members
            for _ in range(120):
                member, told = self.deed(chance, seats, ways, number)
                ways += [(member, goal, thing) for goal, thing in told]
                handed += any(thing[0] == "seat" for _, thing in told)
                self.keep(seats, rows, sure, holders)
            sure_ones += max(seat.sure() for seat in seats) > 2
            self.check(rows, sure)
        self.assertGreater(sure_ones, 60)
        self.assertGreater(handed, 100)

    def deed(self, chance, seats, ways, number):
        """One deed of a member, or a thing that comes, is doubled or is lost."""
        member = chance.randrange(len(seats))
        kind = chance.random()
        if ways and kind < 0.75:
            at = chance.randrange(len(ways))
            start, goal, thing = ways[at]
            if chance.random() < 0.85:
                ways.pop(at)
            return goal, seats[goal].hear(start, thing) if chance.random() < 0.9 else []
        if kind < 0.8 and any(seat.has_seat() for seat in seats):
            member = chance.choice([seat.member() for seat in seats if seat.has_seat()])
            other = chance.choice([k for k in range(len(seats)) if k != member])
            return member, seats[member].hand(other)
        if kind < 0.84:
            return member, seats[member].call()
        if kind < 0.86:
            seats[member] = seats[member].kept()
            return member, []
        if kind < 0.9 and seats[member].has_seat():
            return member, seats[member].again()
        number[member] += 1
        tellers = [seat.member() for seat in seats if seat.has_seat()]
        teller = chance.choice(tellers) if tellers else member
        return teller, seats[teller].give_numbers([(member, number[member])])

    def keep(self, seats, rows, sure, holders):
        """Keep all rows of each term, and what was ever sure; who has the seat is alone in its term and hop."""
        now = [(seat.term(), seat.hop()) for seat in seats if seat.has_seat()]
        self.same(len(set(now)), len(now))
        for seat in seats:
            term, hop, row_term, row, many, seated, *_ = seat.state()
            self.assertLessEqual(many, len(row))
            self.assertLessEqual(row_term, term)
            rows.setdefault(row_term, {})[row] = True
            if (row_term, row[:many]) not in sure:
                sure.append((row_term, row[:many]))
            if seated:
                self.same(holders.setdefault((term, hop), seat.member()), seat.member())

    def check(self, rows, sure):
        """All that [86] tells of them."""
        for of_term in rows.values():
            longest = max(of_term, key=len)
            self.assertTrue(all(longest[:len(row)] == row for row in of_term))
        for term, begin in sure:
            for other, of_term in rows.items():
                if other > term:
                    self.assertTrue(all(row[:len(begin)] == begin for row in of_term))
        longest = max((begin for _, begin in sure), key=len)
        self.assertTrue(all(longest[:len(begin)] == begin for _, begin in sure))


if __name__ == "__main__":
    unittest.main()
