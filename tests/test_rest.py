"""Halls at rest, promises [101] to [103]."""

import random
import time
import unittest

from causehall.halls import Hall
from causehall.numbered import NumberHall
from causehall.rest import calming, is_calming, lacks_for_rest, rests
from tests.models import NumberModel
from tests.pairs import KINDS, any_deed, do_both, has_form, new_pair, pair_behind, random_pairs, shown
from tests.support import HallCase, odd_things

CALMING = ("up", "ask", "call", "flow")


def plainly_lacks(model):
    """What lacks for the model to rest, by plain lists."""
    lacking = [("way", way[0]) for way in model.ways]
    for member, ear in enumerate(model.ears):
        lacking += [("lacks", member, *ident) for ident in model.sent if ident not in ear.order]
        if isinstance(model, NumberModel):
            lacking += [("untold", member, *ident) for ident in model.sent if ident not in model.told[member]]
            lacking += [("asleep", member)] if model.stopped[member] else []
    return sorted(lacking)


def many_stopped(model):
    """How many members have stopped."""
    return sum(model.stopped) if isinstance(model, NumberModel) else 0


def plainly_calms(model, thing):
    """Whether the thing is a list of calming deeds behind which the model rests."""
    if type(thing) not in (list, tuple) or (not plainly_lacks(model) and len(thing) > 0):
        return False
    if not all(has_form(deed, model.members, CALMING) for deed in thing):
        return False
    many = {word: sum(1 for deed in thing if deed[0] == word) for word in CALMING}
    if many["up"] != many_stopped(model) or many["ask"] > 2 * (model.members - 1) or many["flow"] > 4:
        return False
    if many["call"] > isinstance(model, NumberModel):
        return False
    twin = model.twin()
    for deed in thing:
        if twin.refused(deed) is not None:
            return False
        twin.do(deed)
    return plainly_lacks(twin) == []


def spoilt_lists(chance, hall, deeds):
    """The list with one deed left out, put in, twice, exchanged, changed, and turned about."""
    others = range(1, hall.members())
    more = [("flow",), ("ask", 0, 1), ("ask", 1, 0), ("call", 0), ("call", 1), ("up", 0), ("up", 1), ("send", 0, "a"),
            ("come", 1), ("lose", 1), ("double", 1), ("hand", 0, 1), ("again", 0), ("stop", 0), ("stop", 1)]
    lists = [deeds[::-1], sorted(deeds), deeds + deeds, deeds[1:], deeds[:-1], [*deeds, *deeds[-1:]]]
    lists += [deeds[:at] + deeds[at + 1:] for at in range(len(deeds))]
    for deed in more:
        at = chance.randrange(len(deeds) + 1)
        lists += [deeds[:at] + [deed] + deeds[at:], deeds[:at] + [deed] + deeds[at + 1:]]
        lists += [deeds + [deed], [deed] + deeds]
    for _ in range(12):
        turned = list(deeds)
        chance.shuffle(turned)
        lists.append(turned)
    lists += [deeds + [("flow",)] * k for k in range(1, 6)] + [[("flow",)] * k + deeds for k in range(1, 6)]
    lists += [[("ask", 0, other) for other in others] * k + deeds for k in range(1, 4)]
    lists += [[deed for deed in deeds if deed[0] != word] for word in CALMING]
    lists += [[("up", 0) if deed[0] == "call" else deed for deed in deeds]]
    lists += [[("call", member) if deed[0] == "call" else deed for deed in deeds] for member in range(hall.members())]
    return lists


class RestCase(HallCase):

    def check_lacks(self, hall, model):
        """What lacks, and whether it rests, told of the hall as of the model."""
        before = shown(hall)
        self.same(lacks_for_rest(hall), plainly_lacks(model))
        self.assertIs(rests(hall), plainly_lacks(model) == [])
        self.same(shown(hall), before)
        return rests(hall)

    def check_calming(self, hall, model):
        """The deeds told bring a twin to rest, and are as many of each kind as may be."""
        before = shown(hall)
        deeds = calming(hall)
        self.assertIs(type(deeds), list)
        self.assertTrue(all(has_form(deed, hall.members(), CALMING) for deed in deeds), deeds)
        words = [deed[0] for deed in deeds]
        self.assertEqual(words.count("up"), many_stopped(model))
        self.assertLessEqual(words.count("ask"), 2 * (hall.members() - 1))
        self.assertLessEqual(words.count("call"), 1 if isinstance(hall, NumberHall) else 0)
        self.assertLessEqual(words.count("flow"), 4)
        if plainly_lacks(model) == []:
            self.same(deeds, [])
        twin = hall.twin()
        for deed in deeds:
            twin.do(deed)
        self.assertIs(rests(twin), True)
        self.same(lacks_for_rest(twin), [])
        self.assertIs(is_calming(hall, deeds), True)
        self.assertIs(is_calming(hall, tuple(deeds)), True)
        self.assertTrue(plainly_calms(model, deeds))
        self.same(shown(hall), before)
        return deeds


class Lacking(RestCase):

    def test_at_first(self):
        for members in range(2, 6):
            for kind in KINDS:
                hall, model = new_pair(kind, members)
                self.assertIs(self.check_lacks(hall, model), True)
                self.same(lacks_for_rest(hall), [])

    def test_each_kind_alone(self):
        hall = NumberHall(2)
        hall.do(("stop", 1))
        self.same(lacks_for_rest(hall), [("asleep", 1)])
        hall = NumberHall(2)
        hall.do(("ask", 0, 1))
        self.same(lacks_for_rest(hall), [("way", 1)])
        hall = Hall(3)
        for deed in [("send", 1, "a"), ("lose", 1), ("come", 2)]:
            hall.do(deed)
        self.same(lacks_for_rest(hall), [("lacks", 0, 1, 1)])
        hall = NumberHall(3)
        for deed in [("send", 0, "a"), ("come", 1), ("come", 2), ("lose", 3), ("lose", 4)]:
            hall.do(deed)
        self.same(lacks_for_rest(hall), [("untold", 0, 0, 1), ("untold", 1, 0, 1), ("untold", 2, 0, 1)])
        self.assertIs(rests(hall), False)

    def test_all_four_together(self):
        hall = NumberHall(3)
        for deed in [("send", 0, "a"), ("send", 2, "b"), ("stop", 2), ("come", 1), ("stop", 1)]:
            hall.do(deed)
        for way in hall.under_way()[:-1]:
            hall.do(("lose", way[0]))
        number = hall.under_way()[0][0]
        self.same(lacks_for_rest(hall=hall), [
            ("asleep", 1), ("asleep", 2), ("lacks", 0, 2, 1), ("lacks", 1, 2, 1), ("lacks", 2, 0, 1),
            ("untold", 0, 0, 1), ("untold", 0, 2, 1), ("untold", 1, 0, 1), ("untold", 1, 2, 1), ("untold", 2, 0, 1),
            ("untold", 2, 2, 1), ("way", number)])
        self.assertIs(rests(hall=hall), False)

    def test_numbers_rise_as_numbers(self):
        # The eleventh thing stands behind the ninth one, the tenth letter behind the second one.
        hall = Hall(2)
        for _ in range(11):
            hall.do(("send", 1, "a"))
        self.same(lacks_for_rest(hall), [("lacks", 0, 1, number) for number in range(1, 12)] +
                  [("way", number) for number in range(1, 12)])

    def test_held_back_is_not_delivered(self):
        for short in (False, True):
            hall = Hall(2, short)
            for deed in [("send", 0, "a"), ("send", 0, "b"), ("lose", 1), ("come", 2)]:
                hall.do(deed)
            self.same(lacks_for_rest(hall), [("lacks", 1, 0, 1), ("lacks", 1, 0, 2)])

    def test_no_told_rows_in_a_plain_hall(self):
        hall = Hall(3)
        hall.do(("send", 0, "a"))
        hall.do(("flow",))
        self.assertIs(rests(hall), True)

    def test_random_halls(self):
        resting = 0
        for hall, model in random_pairs(360, 0, 60):
            resting += self.check_lacks(hall, model)
            twin = hall.twin()
            self.same(lacks_for_rest(twin), lacks_for_rest(hall))
            do_both(hall, model, ("flow",))
            resting += self.check_lacks(hall, model)
        self.assertGreater(resting, 60)

    def test_thirty_letters(self):
        for members in range(2, 6):
            for kind in KINDS:
                chance = random.Random(members)
                hall, model = new_pair(kind, members)
                while len(model.sent) < 30:
                    deed = any_deed(chance, model)
                    if deed[0] != "stop" and (deed[0] != "double" or chance.random() < 0.2):
                        do_both(hall, model, deed)
                self.check_lacks(hall, model)
                do_both(hall, model, ("flow",))
                self.check_lacks(hall, model)
                self.check_calming(hall, model)

    def test_lists_are_the_askers_own(self):
        for hall, _ in random_pairs(30, 500, 40):
            self.own_list(lambda: lacks_for_rest(hall))
            self.own_list(lambda: calming(hall))


class Calming(RestCase):

    def test_a_hall_at_rest(self):
        for kind in KINDS:
            hall, model = pair_behind(kind, 3, [("send", 1, "a"), ("flow",)])
            self.same(self.check_calming(hall, model), [])
            self.assertIs(is_calming(hall, []), True)
            self.assertIs(is_calming(hall, ()), True)
            for deeds in [[("flow",)], [("ask", 0, 1), ("flow",)], [("up", 0)], [("call", 0), ("flow",)], [None]]:
                self.assertIs(is_calming(hall, deeds), False)

    def test_random_halls(self):
        several = 0
        for hall, model in random_pairs(480, 1000, 90):
            deeds = self.check_calming(hall, model)
            several += len(deeds) > 6
        self.assertGreater(several, 60)

    def test_all_have_stopped(self):
        for members in range(2, 6):
            deeds = [("send", 0, "a"), ("send", 1, "b"), ("call", 1), ("double", 1)]
            hall, model = pair_behind("numbers", members, deeds + [("stop", k) for k in range(members)])
            told = self.check_calming(hall, model)
            self.same(sorted(told)[-members:], [("up", k) for k in range(members)])

    def test_seats_at_several_members(self):
        for seed in range(40):
            chance, members = random.Random(seed), 3 + seed % 3
            hall, model = new_pair("numbers", members)
            for _ in range(60):
                member = chance.randrange(members)
                comes = [("come", way[0]) for way in model.ways if way[3][0] in ("yes", "call", "seat", "letter")]
                deed = chance.choice([("call", member), ("send", member, "a"), *comes, *comes[:1] * 4])
                if chance.random() < 0.2 and model.holders():
                    seated = chance.choice(model.holders())[2]
                    deed = ("hand", seated, (seated + 1) % members)
                if chance.random() < 0.1 and model.ways:
                    deed = ("lose", model.ways[0][0])
                do_both(hall, model, deed)
                if len(model.holders()) > 1:
                    self.check_calming(hall, model)
            self.check_calming(hall, model)

    def test_no_seat_anywhere(self):
        for members in range(2, 6):
            deeds = [("send", 1, "a"), ("hand", 0, 1), ("lose", members), ("flow",)]
            hall, model = pair_behind("numbers", members, deeds)
            self.same(hall.seats(), [])
            self.check_calming(hall, model)

    def test_hall_behind_two_hundred_deeds(self):
        for at, kind in enumerate(KINDS):
            chance = random.Random(at)
            hall, model = new_pair(kind, 2 + at)
            while len(model.deeds) < 200:
                do_both(hall, model, any_deed(chance, model))
            self.check_calming(hall, model)


class IsCalming(RestCase):

    def test_spoilt_lists(self):
        yes = no = 0
        for hall, model in random_pairs(150, 3000, 45):
            chance, deeds, before = random.Random(len(model.deeds)), calming(hall), shown(hall)
            for thing in spoilt_lists(chance, hall, deeds):
                kept, wanted = list(thing), plainly_calms(model, thing)
                self.assertIs(is_calming(hall, thing), wanted, (model.deeds, thing))
                self.assertIs(is_calming(deeds=tuple(thing), hall=hall), wanted)
                self.same(thing, kept)
                yes, no = yes + wanted, no + (not wanted)
            self.same(shown(hall), before)
        self.assertGreater(yes, 1000)
        self.assertGreater(no, 3000)

    def test_as_many_of_each_as_may_be(self):
        hall = NumberHall(3)
        for deed in [("send", 0, "a"), ("stop", 1), ("stop", 2)]:
            hall.do(deed)
        ups, asks, flows = [("up", 2), ("up", 1)], [("ask", 1, 0)] * 4, [("flow",)] * 4
        self.assertIs(is_calming(hall, [*ups, *asks, *flows[1:], ("call", 0), ("flow",)]), True)
        self.assertIs(is_calming(hall, [*ups, *asks, ("ask", 2, 0), *flows[1:], ("call", 0), ("flow",)]), False)
        self.assertIs(is_calming(hall, [*ups, *asks, *flows, ("call", 0), ("flow",)]), False)
        self.assertIs(is_calming(hall, [*ups, *asks, *flows[1:], ("call", 0), ("call", 0), ("flow",)]), False)
        self.assertIs(is_calming(hall, [*ups, ("up", 1), *asks, *flows[1:], ("call", 0), ("flow",)]), False)
        self.assertIs(is_calming(hall, [*ups[1:], *asks, *flows[1:], ("call", 0), ("flow",)]), False)
        # Member 2 asks while it has stopped.
        self.assertIs(is_calming(hall, [("ask", 2, 0), *ups, *flows[1:], ("call", 0), ("flow",)]), False)

    def test_calls_are_none_of_a_plain_hall(self):
        for short in (False, True):
            hall = Hall(2, short)
            hall.do(("send", 0, "a"))
            self.assertIs(is_calming(hall, [("flow",)]), True)
            for deeds in [[("call", 0), ("flow",)], [("flow",), ("call", 1)], [("up", 0), ("flow",)], [("come", 1)],
                          [("flow",), ("again", 0)], [("stop", 0), ("up", 0), ("flow",)], [("flow",), ("hand", 0, 1)]]:
                self.assertIs(is_calming(hall, deeds), False)

    def test_other_things(self):
        hall, there = Hall(2), []
        hall.do(("send", 0, "a"))
        for thing in odd_things():
            there += [thing, [thing], [("flow",), thing], [thing, ("flow",)], (("flow",), (thing,)),
                      [("ask", thing, 0), ("flow",)], [("flow", thing)], {("flow",): thing}]
        there += [[["flow"]], [["ask", 0, 1], ("flow",)], [("ask", True, 0), ("flow",)], [("ask", 0, 2), ("flow",)],
                  [("ask", 0, 0), ("flow",)], [("Flow",)], "flow", ("flow",), [("flow",)] * 500]
        before = shown(hall)
        for thing in there:
            self.assertIs(is_calming(hall, thing), plainly_calms(hall_model(), thing), thing)
        numbers, model = pair_behind("numbers", 2, [("send", 0, "a"), ("stop", 1)])
        for thing in odd_things():
            for deeds in [thing, [thing], [("up", thing), ("flow",), ("call", 0), ("flow",)], [("up", 1), thing],
                          [("up", 1), ("flow",), ("call", thing), ("flow",)]]:
                self.assertIs(is_calming(numbers, deeds), plainly_calms(model, deeds), deeds)
        self.same(shown(hall), before)


def hall_model():
    """The model of a hall of two, of which one sent a letter."""
    return pair_behind("whole", 2, [("send", 0, "a")])[1]


class Times(RestCase):

    def test_thirty_letters_of_five(self):
        for kind in KINDS:
            hall, model = new_pair(kind, 5)
            for at in range(30):
                do_both(hall, model, ("send", at % 5, "tea"))
            for one in range(5):
                for other in range(5):
                    if one != other:
                        for _ in range(8):
                            do_both(hall, model, ("ask", one, other))
            start = time.process_time()
            deeds = calming(hall)
            self.assertIs(is_calming(hall, deeds), True)
            self.assertIs(rests(hall), False)
            self.assertLess(time.process_time() - start, 20)
            self.check_calming(hall, model)


if __name__ == "__main__":
    unittest.main()
