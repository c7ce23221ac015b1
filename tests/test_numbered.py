"""Halls with numbers, promises [91] to [96]."""

import random
import unittest

from causehall.errors import Awake, Full, NoDeed, NoMember, NoNumber, NoSeat, NotOnRoad, Stopped
from causehall.halls import Hall
from causehall.histories import first_wrong, got_by, longest_told, told_by
from causehall.numbered import NumberHall
from causehall.seats import Seat
from tests import test_halls
from tests.models import NumberModel
from tests.support import is_number, no_hall_sizes, no_members, odd_but, odd_things, spoilt
from tests.test_halls import WORDS, like_deed

METHODS = ("do", "members", "is_short", "ids", "held", "wants", "under_way", "history", "deeds", "may", "book", "twin",
           "state", "told", "seat", "has_stopped", "seats")


def shown(hall):
    """All that a NumberHall tells."""
    members = range(hall.members())
    return (test_halls.shown(hall), [hall.told(k) for k in members], [hall.seat(k).state() for k in members],
            [hall.has_stopped(k) for k in members], hall.seats())


def any_deed(chance, model):
    """A deed of right form, mostly one that may be done."""
    kind = chance.random()
    members = range(model.members)
    if kind < 0.15:
        return ("send", chance.choice(members), chance.choice(WORDS))
    if kind < 0.2:
        return (chance.choice(["come", "lose", "double"]), chance.randrange(model.last + 2))
    if kind < 0.26:
        return (chance.choice(["call", "again", "stop", "up", "up"]), chance.choice(members))
    if kind < 0.3:
        return (chance.choice(["hand", "ask"]), *chance.sample(members, 2))
    may = model.may()
    if kind < 0.32:
        return ("flow",)
    if kind < 0.36:
        return chance.choice([deed for deed in may if deed[0] not in ("come", "lose", "double")])
    comes = [deed for deed in may if deed[0] == "come"]
    return chance.choice(comes if comes and kind < 0.9 else may)


def done(members, deeds):
    """A NumberHall that did these deeds."""
    hall = NumberHall(members)
    for deed in deeds:
        hall.do(deed)
    return hall


class NumberCase(test_halls.ModelCase):

    def stands_like(self, hall, model):
        """The hall tells all that the model has."""
        super().stands_like(hall, model)
        for member in range(model.members):
            self.same(hall.told(member), model.told[member])
            self.same(hall.seat(member).state(), model.seats[member].state())
            self.same(hall.has_stopped(member), model.stopped[member])
        self.same(hall.seats(), model.holders())


class Making(NumberCase):

    def test_at_first(self):
        for members in range(2, 6):
            for hall in [NumberHall(members), NumberHall(members=members)]:
                self.assertIsInstance(hall, Hall)
                self.stands_like(hall, NumberModel(members))
                self.same(hall.seats(), [(0, 0, 0)])
                self.assertIs(hall.is_short(), False)

    def test_refused(self):
        for thing in [*no_hall_sizes(), 0, 1, 6, True, "2", None]:
            self.refuses(NoNumber, thing, NumberHall, thing)
            self.refuses(NoNumber, thing, NumberHall, members=thing)

    def test_each_method_is_its_own(self):
        for name in METHODS:
            self.assertIn(name, vars(NumberHall))
        for name in METHODS[:13]:
            self.assertIn(name, vars(Hall))


class Deeds(NumberCase):

    def test_numbers_and_tells(self):
        hall = NumberHall(3)
        self.same(hall.do(("send", 0, "tea")), [("sent", 0, "tea")])
        letter, row = ("letter", 0, 1, "tea", (0, 0, 0)), ("row", 0, 0, ((0, 1),), 0)
        self.same(hall.under_way(), [(1, 0, 1, letter), (2, 0, 2, letter), (3, 0, 1, row), (4, 0, 2, row)])
        self.same(hall.do(("come", 3)), [])
        self.same(hall.under_way()[3:], [(5, 1, 0, ("has", 0, 1))])
        self.same(hall.do(("come", 5)), [("told", 0, 1, 0, 1)])
        sure = ("row", 0, 0, ((0, 1),), 1)
        self.same(hall.under_way()[3:], [(6, 0, 1, sure), (7, 0, 2, sure)])
        # The row is sure at 1 ahead of the letter, and told as soon as this is delivered.
        self.same(hall.do(("come", 6)), [])
        self.same(hall.do(deed=("come", 1)), [("got", 1, 0, 1), ("told", 1, 1, 0, 1)])
        self.same(hall.do(("come", 2)), [("got", 2, 0, 1)])
        self.same(hall.do(("come", 7)), [("told", 2, 1, 0, 1)])
        self.same([hall.told(k) for k in range(3)], [[(0, 1)]] * 3)

    def test_rows_told_stand_behind_those_delivered_by_the_same_come(self):
        # Member 1 has the whole sure row ahead of all letters, which wait for the first one.
        deeds = [("send", 0, "a"), ("send", 0, "b"), ("send", 0, "c")]
        hall = done(2, deeds)
        letters = [number for number, _, _, thing in hall.under_way() if thing[0] == "letter"]
        rows = [number for number, _, _, thing in hall.under_way() if thing[0] == "row"]
        hall.do(("come", rows[-1]))
        hall.do(("come", hall.under_way()[-1][0]))
        self.same(hall.told(0), [(0, 1), (0, 2), (0, 3)])
        hall.do(("come", hall.under_way()[-1][0]))
        self.same((hall.seat(1).sure(), hall.told(1)), (3, []))
        twin = hall.twin()
        hall.do(("come", letters[2]))
        hall.do(("come", letters[1]))
        self.same(hall.held(1), [(0, 2), (0, 3)])
        self.same(hall.do(("come", letters[0])), [("got", 1, 0, 1), ("got", 1, 0, 2), ("got", 1, 0, 3),
                                                  ("told", 1, 1, 0, 1), ("told", 1, 2, 0, 2), ("told", 1, 3, 0, 3)])
        # In a flow each row told stands behind what was delivered by the same come.
        self.same(twin.do(("flow",)), [("got", 1, 0, 1), ("told", 1, 1, 0, 1), ("got", 1, 0, 2), ("told", 1, 2, 0, 2),
                                       ("got", 1, 0, 3), ("told", 1, 3, 0, 3)])

    def test_who_has_the_seat_numbers_what_comes(self):
        hall = done(3, [("send", 2, "a"), ("come", 1)])
        self.same(hall.seat(0).row(), [(2, 1)])
        row = ("row", 0, 0, ((2, 1),), 0)
        self.same([way[1:] for way in hall.under_way()[1:]], [(0, 1, row), (0, 2, row)])
        self.same(hall.do(("flow",)), [("got", 1, 2, 1), ("told", 0, 1, 2, 1), ("told", 1, 1, 2, 1),
                                       ("told", 2, 1, 2, 1)])

    def test_who_comes_to_the_seat_numbers_what_it_delivered(self):
        hall = done(3, [("send", 1, "a"), ("send", 1, "b"), ("hand", 0, 1)])
        self.same(hall.seats(), [])
        number = hall.under_way()[-1][0]
        self.same(hall.under_way()[-1][1:], (0, 1, ("seat", 0, 1, (), 0)))
        hall.do(("come", number))
        self.same(hall.seats(), [(0, 1, 1)])
        # First what its Seat told of itself, then the row with the numbers.
        empty, row = ("row", 0, 1, (), 0), ("row", 0, 1, ((1, 1), (1, 2)), 0)
        self.same([way[1:] for way in hall.under_way() if way[0] > number],
                  [(1, 0, empty), (1, 2, empty), (1, 0, row), (1, 2, row)])

    def test_call_and_answers(self):
        hall = done(3, [("send", 2, "a")])
        self.same(hall.do(("call", 2)), [])
        self.same([way[1:] for way in hall.under_way()[2:]], [(2, 0, ("call", 2)), (2, 1, ("call", 2))])
        self.same(hall.do(("come", 4)), [])
        self.same(hall.under_way()[-1][1:], (1, 2, ("yes", 2, 0, (), 0)))
        self.same(hall.seats(), [(0, 0, 0)])
        hall.do(("come", 5))
        self.same(hall.seats(), [(0, 0, 0), (2, 0, 2)])
        self.same(hall.seat(2).row(), [(2, 1)])
        hall.do(("come", 3))
        self.same(hall.seats(), [(2, 0, 2)])
        self.assertIs(hall.seat(2).answered(), None)

    def test_hand_and_again(self):
        hall = done(2, [("again", 0)])
        self.same(hall.under_way(), [(1, 0, 1, ("row", 0, 0, (), 0))])
        self.same(hall.do(("hand", 0, 1)), [])
        self.same(hall.under_way()[1:], [(2, 0, 1, ("seat", 0, 1, (), 0))])
        for deed in [("hand", 0, 1), ("again", 0), ("again", 1), ("hand", 1, 0)]:
            self.refuses_of(NoSeat, deed[1], hall.do, deed)
        self.same(hall.do(("come", 2)), [])
        self.same(hall.do(("again", 1)), [])
        self.same(hall.under_way()[1:], [(3, 1, 0, ("row", 0, 1, (), 0)), (4, 1, 0, ("row", 0, 1, (), 0))])

    def test_stop_and_up(self):
        hall = done(3, [("send", 1, "a"), ("send", 1, "b"), ("lose", 1), ("come", 3), ("send", 0, "c")])
        self.same((hall.held(0), hall.ids(0), hall.seats()), ([(1, 2)], [(0, 1)], [(0, 0, 0)]))
        self.same(hall.do(("stop", 0)), [])
        self.same((hall.held(0), hall.wants(0), hall.ids(0), hall.seats()), ([], [], [(0, 1)], []))
        self.assertIs(hall.has_stopped(0), True)
        self.assertIs(hall.has_stopped(1), False)
        self.same(hall.seat(0).row(), [(0, 1)])
        self.same(hall.do(("up", 0)), [])
        self.assertIs(hall.has_stopped(member=0), False)
        self.same(hall.seats(), [])
        hall.do(("send", 0, "d"))
        self.same(hall.ids(0), [(0, 1), (0, 2)])
        self.same(hall.seat(0).row(), [(0, 1)])

    def test_what_comes_to_a_member_that_stopped_is_lost(self):
        hall = done(3, [("send", 0, "a"), ("ask", 0, 1), ("call", 2), ("stop", 1)])
        before = (hall.ids(1), hall.held(1), hall.seat(1).state(), hall.told(1))
        for number, start, goal, _ in hall.under_way():
            if goal == 1:
                many = len(hall.under_way())
                self.same(hall.do(("come", number)), [])
                self.same(len(hall.under_way()), many - 1)
        self.same((hall.ids(1), hall.held(1), hall.seat(1).state(), hall.told(1)), before)
        hall.do(("flow",))
        self.same((hall.ids(1), hall.held(1), hall.seat(1).state(), hall.told(1)), before)
        self.same(hall.under_way(), [])
        self.same(hall.ids(2), [(0, 1)])

    def test_doubles_and_losses_of_what_goes_to_it(self):
        hall = done(2, [("send", 0, "a"), ("stop", 1), ("double", 1), ("lose", 2), ("ask", 0, 1)])
        self.same([way[0] for way in hall.under_way()], [1, 3, 4])
        hall.do(("up", 1))
        self.same(hall.do(("come", 3)), [("got", 1, 0, 1)])

    def test_no_deed(self):
        for members in range(2, 6):
            hall = done(members, [("send", 0, "a"), ("stop", 1)])
            before = shown(hall)
            no_member = [*no_members(members), members, -1]
            no_word = odd_but(lambda thing: isinstance(thing, str) and thing in ("a", "tea"))
            no_number = [*odd_but(lambda thing: is_number(thing, 0)), -1]
            wrong = [*odd_things(), ("flow", 0), ("stop",), ("up",), ("hand", 0), ("told", 0, 1, 0, 1), "stop",
                     ["flow"], ("row", 0, 0, (), 0), ("seat", 0), ("stop", 0, 1), ("call", True), ("up", False)]
            wrong += [(word, k, k) for word in ("hand", "ask") for k in range(members)]
            wrong += spoilt(("send", 1, "tea"), [None, no_member, no_word])
            for word in ("call", "again", "stop", "up"):
                wrong += spoilt((word, 1), [None, no_member])
            for word in ("hand", "ask"):
                wrong += spoilt((word, 1, 0), [None, no_member, no_member])
            for word in ("come", "lose", "double"):
                wrong += spoilt((word, 1), [None, no_number])
            for deed in wrong:
                self.refuses(NoDeed, deed, hall.do, deed)
            self.same(shown(hall), before)

    def test_number_deeds_are_none_of_a_plain_hall(self):
        hall = Hall(3)
        for deed in [("call", 1), ("hand", 0, 1), ("again", 0), ("stop", 1), ("up", 1)]:
            self.refuses(NoDeed, deed, hall.do, deed)

    def test_stopped(self):
        for members in range(2, 6):
            hall = done(members, [("send", 0, "a"), ("stop", 0)])
            before = shown(hall)
            for deed in [("send", 0, "b"), ("ask", 0, 1), ("call", 0), ("hand", 0, 1), ("again", 0), ("stop", 0)]:
                self.refuses_of(Stopped, 0, hall.do, deed)
            for deed in [("send", 0, "B"), ("ask", 0, 0), ("call", 0, 0), ("hand", 0, 0), ("again",), ("stop", "0")]:
                self.refuses(NoDeed, deed, hall.do, deed)
            self.same(shown(hall), before)
            hall.do(("ask", 1, 0))
            hall.do(("call", 1))

    def test_stopped_ahead_of_full(self):
        hall = done(2, [("send", 0, "a")] * 30)
        self.same(self.refusal(Full, hall.do, ("send", 1, "a")).many, 30)
        hall.do(("stop", 1))
        self.refuses_of(Stopped, 1, hall.do, ("send", 1, "a"))
        self.same(self.refusal(Full, hall.do, ("send", 0, "a")).many, 30)

    def test_awake(self):
        hall = done(3, [("stop", 1), ("up", 1)])
        before = shown(hall)
        for member in range(3):
            self.refuses_of(Awake, member, hall.do, ("up", member))
        self.same(shown(hall), before)

    def test_not_on_road_and_no_seat(self):
        hall = done(3, [("send", 0, "a"), ("come", 1), ("lose", 2)])
        before = shown(hall)
        for word in ("come", "lose", "double"):
            for number in (0, 1, 2, 99, 10 ** 29):
                self.refuses_of(NotOnRoad, number, hall.do, (word, number))
        for deed in [("hand", 1, 0), ("again", 2), ("hand", 2, 1), ("again", 1)]:
            self.refuses_of(NoSeat, deed[1], hall.do, deed)
        self.same(shown(hall), before)


class Telling(NumberCase):

    def test_random_deeds(self):
        several = 0
        for seed in range(100):
            chance, members = random.Random(seed), 2 + seed % 4
            both = [(NumberHall(members), NumberModel(members))]
            for at in range(110):
                hall, model = chance.choice(both)
                self.do_both(hall, model, any_deed(chance, model))
                if at % 40 == 27:
                    both.append((hall.twin(), model.twin()))
                if at % 5 == 0:
                    for one, other in both:
                        self.stands_like(one, other)
            several += len(both[0][1].told[0]) > 3
        self.assertGreater(several, 20)

    def test_no_member(self):
        for members in range(2, 6):
            hall = NumberHall(members)
            for thing in [*no_members(members), members, -1, True, False]:
                for ask in [hall.ids, hall.held, hall.wants, hall.told, hall.seat, hall.has_stopped]:
                    self.refuses(NoMember, thing, ask, thing)
                    self.refuses(NoMember, thing, ask, member=thing)

    def test_told_things_are_the_askers_own(self):
        hall = done(3, [("send", 0, "a"), ("flow",), ("send", 1, "b"), ("send", 1, "c"), ("lose", 11), ("come", 13)])
        before = shown(hall)
        for tell in [hall.under_way, hall.history, hall.deeds, hall.may, hall.seats, lambda: hall.ids(0),
                     lambda: hall.told(member=1)]:
            self.own_list(tell)
        seat = hall.seat(member=0)
        self.assertIs(type(seat), Seat)
        seat.call()
        seat.hear(1, ("row", 99, 0, (), 0))
        self.same(shown(hall), before)

    def test_twins_both_ways_round(self):
        for members in range(2, 6):
            for first, second in [(0, 1), (1, 0)]:
                hall = done(members, [("send", 0, "a"), ("flow",), ("stop", 1), ("send", 0, "b")])
                both = [hall, hall.twin()]
                self.assertIs(type(both[1]), NumberHall)
                before = shown(hall)
                self.same(shown(both[1]), before)
                for deed in [("up", 1), ("call", 1), ("flow",), ("stop", 0), ("send", 1, "c")]:
                    both[first].do(deed)
                    self.same(shown(both[second]), before)
                both[second].do(("hand", 0, 1))
                self.same(both[second].deeds()[4:], [("hand", 0, 1)])
                self.same(len(both[first].deeds()), 9)

    def test_may(self):
        hall = done(3, [("hand", 0, 1), ("come", 1), ("lose", 2), ("stop", 2)])
        self.same(hall.may(), [
            ("come", 3), ("lose", 3), ("double", 3), ("ask", 0, 1), ("ask", 0, 2), ("ask", 1, 0), ("ask", 1, 2),
            ("call", 0), ("call", 1), ("hand", 1, 0), ("hand", 1, 2), ("again", 1), ("stop", 0), ("stop", 1),
            ("up", 2), ("flow",)])
        hall = done(2, [("call", 1), ("come", 1), ("come", 2)])
        self.same(hall.seats(), [(1, 0, 1)])
        self.same(done(2, [("stop", 0)]).may(), [("ask", 1, 0), ("call", 1), ("stop", 1), ("up", 0), ("flow",)])

    def test_every_deed_of_may_is_done_by_a_twin(self):
        for seed in range(24):
            chance, members = random.Random(seed), 2 + seed % 4
            hall, model = NumberHall(members), NumberModel(members)
            for _ in range(40):
                self.do_both(hall, model, any_deed(chance, model))
            before = shown(hall)
            for deed in hall.may():
                one, other = hall.twin(), model.twin()
                self.same(one.do(deed), other.do(deed))
                self.stands_like(one, other)
            self.same(shown(hall), before)

    def test_two_seats_of_unlike_terms(self):
        hall = done(3, [("call", 2), ("come", 2), ("come", 3)])
        self.same(hall.seats(), [(0, 0, 0), (2, 0, 2)])
        hall.do(("call", 1))
        self.same(hall.seats(), [(0, 0, 0), (2, 0, 2)])
        self.same([deed for deed in hall.may() if deed[0] == "again"], [("again", 0), ("again", 2)])


class Standing(NumberCase):

    def test_part_by_part(self):
        hall = done(2, [("send", 0, "a"), ("come", 2), ("come", 3), ("stop", 1)])
        row = ("row", 0, 0, ((0, 1),), 1)
        self.same(hall.state(), (
            ((((0, 1),), ()), ((), ())),
            ((0, 1, "a", (0, 0)),),
            ((0, 1, ("letter", 0, 1, "a", (0, 0))), (0, 1, row)),
            (((0, 0, 0, ((0, 1),), 1, True, None, ((1, 1),)), 1, False),
             ((0, 0, 0, ((0, 1),), 0, False, None, ()), 0, True)),
            ((0, 1),),
        ))

    def test_alike_by_other_numbers(self):
        one = done(3, [("send", 0, "a"), ("send", 1, "b"), ("call", 2)])
        other = done(3, [("send", 1, "b"), ("double", 1), ("double", 2), ("lose", 1), ("call", 2), ("ask", 2, 0),
                         ("stop", 1), ("lose", 7), ("up", 1), ("lose", 2), ("send", 0, "a")])
        self.same(one.state(), other.state())
        self.assertNotEqual(one.under_way(), other.under_way())
        chance = random.Random(5)
        for _ in range(150):
            deed = chance.choice(one.may()[:-1] + [("send", chance.randrange(3), "c")])
            if deed[0] == "stop" and chance.random() < 0.8:
                continue
            if deed[0] == "send" and (one.has_stopped(deed[1]) or len(one.book()) == 30):
                continue
            like = like_deed(one, other, deed)
            self.same(one.do(deed), other.do(like))
            self.same(one.state(), other.state())

    def test_unlike_halls(self):
        deeds = [("send", 0, "a"), ("come", 2), ("come", 3)]
        base = done(2, deeds)
        for more in [("stop", 1), ("stop", 0), ("call", 1), ("hand", 0, 1), ("again", 0), ("lose", 1), ("come", 4)]:
            self.assertNotEqual(base.state(), done(2, [*deeds, more]).state())
        self.assertNotEqual(NumberHall(2).state(), NumberHall(3).state())
        self.same({base.state(): 1}[base.twin().state()], 1)


class All(NumberCase):

    def test_random_runs(self):
        told = stopped = 0
        for seed in range(150):
            chance, members = random.Random(1000 + seed), 2 + seed % 4
            hall, model, kept, holders = NumberHall(members), NumberModel(members), {}, {}
            for _ in range(200):
                deed = any_deed(chance, model)
                before = ([hall.ids(k) for k in range(members)], [hall.told(k) for k in range(members)])
                if not self.do_both(hall, model, deed):
                    continue
                self.keep(hall, before, kept, deed)
                self.seats_alone(hall, holders)
            self.check(hall)
            told += len(longest_told(members, hall.history()))
            stopped += sum(1 for deed in hall.deeds() if deed[0] == "up")
        self.assertGreater(told, 500)
        self.assertGreater(stopped, 300)

    def keep(self, hall, before, kept, deed):
        """What a member delivered and told is never less; who stopped has just what it had."""
        ids, told = before
        for member in range(hall.members()):
            self.same(hall.ids(member)[:len(ids[member])], ids[member])
            self.same(hall.told(member)[:len(told[member])], told[member])
        if deed[0] in ("stop", "up"):
            member = deed[1]
            self.same((hall.ids(member), hall.told(member)), (ids[member], told[member]))
            if deed[0] == "stop":
                kept[member] = (hall.ids(member), hall.told(member), hall.seat(member).state())
            else:
                self.same((hall.ids(member), hall.told(member), hall.seat(member).state()), kept.pop(member))

    def seats_alone(self, hall, holders):
        """No term and hop ever has two seats."""
        for term, hop, member in hall.seats():
            self.same(holders.setdefault((term, hop), member), member)

    def check(self, hall):
        """The history can be, and tells what the hall tells."""
        members, rows = hall.members(), hall.history()
        self.assertIsNone(first_wrong(members, rows))
        longest = longest_told(members, rows)
        self.same(hall.state()[4], tuple(longest))
        for member in range(members):
            self.same(hall.ids(member), got_by(members, rows, member))
            self.same(hall.told(member), told_by(members, rows, member))
            self.same(longest[:len(hall.told(member))], hall.told(member))

    def test_comes_to_rest(self):
        for seed in range(40):
            chance, members = random.Random(3000 + seed), 2 + seed % 4
            hall, model = NumberHall(members), NumberModel(members)
            for _ in range(90):
                self.do_both(hall, model, any_deed(chance, model))
            for member in range(members):
                if hall.has_stopped(member):
                    hall.do(("up", member))
            hall.do(("flow",))
            for pairs in [[(0, k) for k in range(1, members)], [(k, 0) for k in range(1, members)]]:
                for one, other in pairs:
                    hall.do(("ask", one, other))
                hall.do(("flow",))
            caller = max(range(members), key=lambda member: hall.seat(member).term())
            hall.do(("call", caller))
            hall.do(("flow",))
            for member in range(members):
                self.same(sorted(hall.told(member)), sorted(hall.book().ids()))
                self.same(hall.told(member), hall.told(0))
            self.check(hall)


if __name__ == "__main__":
    unittest.main()
