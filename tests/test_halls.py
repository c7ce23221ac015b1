"""Halls, promises [71] to [74] and [76]."""

import random
import unittest

from causehall import errors
from causehall.books import Book
from causehall.errors import Full, NoDeed, NoMember, NoNumber, NotOnRoad
from causehall.halls import Hall
from causehall.histories import book_of, first_wrong, got_by
from tests.models import HallModel
from tests.support import BIG, HallCase, is_number, letter_of, no_hall_sizes, no_members, odd_but, odd_things, spoilt

WORDS = ("a", "tea", "milk", "zzzzzzzz")
KINDS = [(members, short) for members in range(2, 6) for short in (False, True)]


def shown(hall):
    """All that a Hall tells."""
    members = range(hall.members())
    book = hall.book()
    return (hall.is_short(), [hall.ids(k) for k in members], [hall.held(k) for k in members],
            [hall.wants(k) for k in members], hall.under_way(), hall.history(), hall.deeds(), hall.may(), hall.state(),
            book.ids(), [str(book.letter(ident)) for ident in book.ids()])


def any_deed(chance, model, sends=0.2):
    """A deed of right form, mostly one that may be done."""
    kind = chance.random()
    if kind < sends:
        return ("send", chance.randrange(model.members), chance.choice(WORDS))
    if kind < sends + 0.05:
        return (chance.choice(["come", "lose", "double"]), chance.randrange(model.last + 2))
    may = model.may()
    if kind < sends + 0.1:
        return chance.choice([("flow",), ("ask", *chance.sample(range(model.members), 2))])
    return chance.choice(may[:len(may) // 3 + 1] if kind < 0.7 else may[:-1])


def done(members, deeds, short=False):
    """A Hall that did these deeds."""
    hall = Hall(members, short)
    for deed in deeds:
        hall.do(deed)
    return hall


def like_deed(one, other, deed):
    """The deed of the other hall, which stands alike, that is like this one, by its own numbers."""
    if deed[0] not in ("come", "lose", "double"):
        return deed
    way = [way[1:] for way in one.under_way() if way[0] == deed[1]][0]
    return (deed[0], [way_there[0] for way_there in other.under_way() if way_there[1:] == way][-1])


class ModelCase(HallCase):

    def stands_like(self, hall, model):
        """The Hall tells all that the model has."""
        self.same(hall.members(), model.members)
        self.same(hall.is_short(), model.short)
        for member, ear in enumerate(model.ears):
            self.same(hall.ids(member), ear.order)
            self.same(hall.held(member), ear.held())
            self.same(hall.wants(member), ear.wants())
        self.same(hall.under_way(), model.ways)
        self.same(hall.history(), model.rows)
        self.same(hall.deeds(), model.deeds)
        self.same(hall.may(), model.may())
        self.same(hall.state(), model.state())
        book = hall.book()
        self.same(book.ids(), list(model.sent))
        self.same([(book.letter(i).word(), book.letter(i).causes().told()) for i in model.sent],
                  list(model.sent.values()))

    def do_both(self, hall, model, deed):
        """The deed is done, or refused, by both alike; True where it was done."""
        refused = model.refused(deed)
        if refused is None:
            self.same(hall.do(deed), model.do(deed))
            return True
        name, thing = refused
        refusal = self.refusal(getattr(errors, name), hall.do, deed)
        self.same(refusal.many if name == "Full" else refusal.found, thing)
        return False


class Making(ModelCase):

    def test_at_first(self):
        for members, short in KINDS:
            self.stands_like(Hall(members, short), HallModel(members, short))
            self.stands_like(Hall(short=short, members=members), HallModel(members, short))
        for members in range(2, 6):
            self.stands_like(Hall(members), HallModel(members))
            self.stands_like(Hall(members=members), HallModel(members))
            self.same(Hall(members).state(), ((((), ()),) * members, (), ()))

    def test_refused(self):
        for thing in [*no_hall_sizes(), 0, 1, 6, True, "2", None]:
            self.refuses(NoNumber, thing, Hall, thing)
            self.refuses(NoNumber, thing, Hall, thing, True)
            self.refuses(NoNumber, thing, Hall, short=False, members=thing)


class Deeds(ModelCase):

    def test_each_form_in_a_hall_of_whole_letters(self):
        hall = Hall(3)
        self.same(hall.do(("send", 1, "tea")), [("sent", 1, "tea")])
        self.same(hall.under_way(), [(1, 1, 0, ("letter", 1, 1, "tea", (0, 0, 0))),
                                     (2, 1, 2, ("letter", 1, 1, "tea", (0, 0, 0)))])
        self.same(hall.do(deed=("come", 2)), [("got", 2, 1, 1)])
        self.same(hall.do(("send", 2, "milk")), [("sent", 2, "milk")])
        self.same(hall.under_way()[1:], [(3, 2, 0, ("letter", 2, 1, "milk", (0, 1, 0))),
                                         (4, 2, 1, ("letter", 2, 1, "milk", (0, 1, 0)))])
        self.same(hall.do(("come", 3)), [])
        self.same((hall.held(0), hall.wants(0)), ([(2, 1)], [(1, 1)]))
        self.same(hall.do(("double", 1)), [])
        self.same(hall.do(("lose", 1)), [])
        self.same([way[0] for way in hall.under_way()], [4, 5])
        self.same(hall.do(("come", 5)), [("got", 0, 1, 1), ("got", 0, 2, 1)])
        self.same(hall.do(("ask", 1, 0)), [])
        self.same(hall.under_way()[1:], [(6, 1, 0, ("ask", (0, 1, 0)))])
        self.same(hall.do(("come", 6)), [])
        self.same(hall.under_way()[1:], [(7, 0, 1, ("letter", 2, 1, "milk", (0, 1, 0)))])
        self.same(hall.do(("flow",)), [("got", 1, 2, 1)])
        self.same(hall.under_way(), [])
        self.same(hall.do(("flow",)), [])
        self.same(hall.history(), [("sent", 1, "tea"), ("got", 2, 1, 1), ("sent", 2, "milk"), ("got", 0, 1, 1),
                                   ("got", 0, 2, 1), ("got", 1, 2, 1)])
        self.same(hall.deeds()[-3:], [("come", 6), ("flow",), ("flow",)])
        self.same(len(hall.deeds()), 11)

    def test_short_letters(self):
        hall = Hall(3, short=True)
        hall.do(("send", 1, "tea"))
        self.same(hall.under_way()[0], (1, 1, 0, ("short", 1, 1, "tea", ())))
        hall.do(("come", 2))
        hall.do(("send", 2, "milk"))
        self.same(hall.under_way()[1], (3, 2, 0, ("short", 2, 1, "milk", ((1, 1),))))
        hall.do(("double", 3))
        # What lacks is refused; it is under way no more, and nothing is held back.
        self.same(hall.do(("come", 3)), [])
        self.same((hall.held(0), hall.wants(0), hall.ids(0)), ([], [], []))
        self.same([way[0] for way in hall.under_way()], [1, 4, 5])
        self.same(hall.do(("come", 1)), [("got", 0, 1, 1)])
        self.same(hall.do(("come", 5)), [("got", 0, 2, 1)])
        self.same(hall.do(("send", 0, "cup")), [("sent", 0, "cup")])
        self.same(hall.under_way()[1:], [(6, 0, 1, ("short", 0, 1, "cup", ((2, 1),))),
                                         (7, 0, 2, ("short", 0, 1, "cup", ((2, 1),)))])
        hall.do(("lose", 4))
        self.same(hall.do(("come", 6)), [])
        self.same(hall.do(("ask", 1, 0)), [])
        self.same(hall.do(("come", 8)), [])
        self.same(hall.under_way()[1:], [(9, 0, 1, ("short", 2, 1, "milk", ((1, 1),))),
                                         (10, 0, 1, ("short", 0, 1, "cup", ((2, 1),)))])
        # The one that needs the other comes first, and is refused; a flow puts more on the roads while it goes.
        self.same(hall.do(("come", 10)), [])
        hall.do(("ask", 1, 2))
        self.same(hall.do(("flow",)), [("got", 2, 0, 1), ("got", 1, 2, 1), ("got", 1, 0, 1)])
        self.same(hall.under_way(), [])

    def test_short_letter_by_causes_held_back(self):
        # (0,3) knows (0,2) alone, which is held back, as (0,1) was lost.
        for short, held in [(False, [(0, 2), (0, 3)]), (True, [])]:
            hall = done(2, [("send", 0, "a"), ("send", 0, "b"), ("send", 0, "c"), ("lose", 1), ("come", 2),
                            ("come", 3)], short)
            self.same(hall.held(1), held)

    def test_flow_takes_the_least_number_first(self):
        hall = done(2, [("send", 0, "a"), ("send", 0, "b"), ("double", 1), ("lose", 1)])
        self.same([way[0] for way in hall.under_way()], [2, 3])
        # (0,2) comes ahead of (0,1), and is held back till then.
        self.same(hall.do(("flow",)), [("got", 1, 0, 1), ("got", 1, 0, 2)])
        hall = done(3, [("send", 0, "a"), ("ask", 1, 0), ("send", 2, "b")])
        self.same(hall.do(("flow",)), [("got", 1, 0, 1), ("got", 2, 0, 1), ("got", 0, 2, 1), ("got", 1, 2, 1)])
        self.same(hall.do(("ask", 1, 0)), [])
        # What answered the first ask was number 6, and came by the same flow.
        self.same(hall.under_way()[0][0], 7)

    def test_asks_are_answered_in_the_order_of_delivery(self):
        hall = done(3, [("send", 2, "a"), ("send", 1, "b"), ("come", 3), ("come", 1), ("lose", 2), ("lose", 4)])
        self.same(hall.ids(0), [(1, 1), (2, 1)])
        hall.do(("ask", 2, 0))
        hall.do(("ask", 1, 0))
        hall.do(("send", 0, "c"))
        for number in [6, 5]:
            hall.do(("come", number))
        told = [way[1:] for way in hall.under_way() if way[0] > 8]
        self.same(told, [(0, 1, ("letter", 2, 1, "a", (0, 0, 0))), (0, 1, ("letter", 0, 1, "c", (0, 1, 1))),
                         (0, 2, ("letter", 1, 1, "b", (0, 0, 0))), (0, 2, ("letter", 0, 1, "c", (0, 1, 1)))])

    def test_counts_of_an_ask_are_those_when_it_was_asked(self):
        hall = done(2, [("send", 0, "a"), ("ask", 1, 0), ("come", 1), ("come", 2)])
        self.same(hall.under_way(), [(3, 0, 1, ("letter", 0, 1, "a", (0, 0)))])
        self.same(hall.do(("come", 3)), [])

    def test_no_deed(self):
        for members, short in KINDS:
            hall = done(members, [("send", 0, "tea"), ("send", 1, "tea"), ("double", 1)], short)
            before = shown(hall)
            no_member = [*no_members(members), members, -1]
            no_number = [*odd_but(lambda thing: is_number(thing, 0)), -1, "1", None]
            no_word = odd_but(lambda thing: isinstance(thing, str) and thing in ("a", "tea"))
            wrong = [*odd_things(), ("tell", 0), ("sent", 0, "tea"), ("got", 1, 0, 1), ("flow", 1), ["flow"], "flow",
                     ("Flow",), ("send",), ("send", 0), ("come",), ("ask", 0), ("call", 0), ("hand", 0, 1),
                     ("again", 0), ("stop", 0), ("up", 0), ("come", "1"), ("come", (1,)),
                     ("lose", True), ("double", False), ("ask", 0, 1, 2), ("ask", True, 0), ("ask", 1, False)]
            wrong += spoilt(("send", 0, "tea"), [None, no_member, no_word])
            wrong += spoilt(("ask", 0, 1), [None, no_member, no_member])
            wrong += [("ask", member, member) for member in range(members)]
            for word in ("come", "lose", "double"):
                wrong += spoilt((word, 1), [None, no_number])
            for deed in wrong:
                self.refuses(NoDeed, deed, hall.do, deed)
            self.assertIs(self.refusal(NoDeed, hall.do, deed="flow").found, "flow")
            self.same(shown(hall), before)

    def test_not_on_road(self):
        for members, short in KINDS:
            hall = done(members, [("send", 0, "a"), ("send", 1, "b"), ("double", 1), ("lose", 2), ("come", 1)], short)
            before = shown(hall)
            there = [way[0] for way in hall.under_way()]
            for word in ("come", "lose", "double"):
                for number in [0, 1, 2, max(there) + 1, 99, BIG]:
                    self.refuses_of(NotOnRoad, number, hall.do, (word, number))
            self.same(shown(hall), before)

    def test_full(self):
        for members, short in [(2, False), (5, False), (3, True)]:
            hall = Hall(members, short)
            for k in range(30):
                self.same(hall.do(("send", k % members, "tea")), [("sent", k % members, "tea")])
                if k % 7 == 0:
                    hall.do(("flow",))
            before = shown(hall)
            for member in range(members):
                self.same(self.refusal(Full, hall.do, ("send", member, "tea")).many, 30)
            for deed in [("send", members, "tea"), ("send", 0, "Tea"), ("send", 0)]:
                self.refuses(NoDeed, deed, hall.do, deed)
            self.same(shown(hall), before)
            hall.do(("flow",))
            for member in range(members):
                self.same(len(hall.ids(member)), 30)
            self.same(self.refusal(Full, hall.do, ("send", 0, "tea")).many, 30)


class Telling(ModelCase):

    def test_random_deeds(self):
        for seed in range(80):
            chance = random.Random(seed)
            members, short = KINDS[seed % 8]
            both = [(Hall(members, short), HallModel(members, short))]
            for at in range(90):
                hall, model = chance.choice(both)
                self.do_both(hall, model, any_deed(chance, model))
                if at % 30 == 17:
                    both.append((hall.twin(), model.twin()))
                if at % 4 == 0:
                    for one, other in both:
                        self.stands_like(one, other)

    def test_no_member(self):
        for members, short in KINDS:
            hall = done(members, [("send", 0, "tea")], short)
            for thing in [*no_members(members), members, -1, True, False]:
                for ask in [hall.ids, hall.held, hall.wants]:
                    self.refuses(NoMember, thing, ask, thing)
                    self.refuses(NoMember, thing, ask, member=thing)

    def test_lists_are_the_askers_own(self):
        deeds = [("send", 0, "a"), ("send", 0, "b"), ("send", 0, "d"), ("lose", 1), ("come", 3), ("come", 5)]
        for short in (False, True):
            hall = done(3, deeds, short)
            before = shown(hall)
            for tell in [hall.under_way, hall.history, hall.deeds, hall.may, lambda: hall.ids(0), lambda: hall.held(1),
                         lambda: hall.wants(member=1)]:
                self.own_list(tell)
            book = hall.book()
            self.assertIs(type(book), Book)
            book.keep(letter_of(2, (0, 0, 0)))
            self.same(shown(hall), before)
            told = hall.do(("send", 2, "c"))
            told.append("more")
            told[0] = "other"
            self.same(hall.history()[-1], ("sent", 2, "c"))

    def test_twins_both_ways_round(self):
        for members, short in KINDS:
            for first, second in [(0, 1), (1, 0)]:
                hall = done(members, [("send", 0, "a"), ("send", 1, "b"), ("ask", 0, 1), ("double", 1)], short)
                both = [hall, hall.twin()]
                self.assertIs(type(both[1]), Hall)
                before = shown(hall)
                self.same(shown(both[1]), before)
                for deed in [("send", 1, "c"), ("flow",), ("ask", 1, 0)]:
                    both[first].do(deed)
                    self.same(shown(both[second]), before)
                both[second].do(("lose", 1))
                both[second].do(("send", 0, "d"))
                self.same(both[first].deeds()[4:], [("send", 1, "c"), ("flow",), ("ask", 1, 0)])
                self.same(both[second].deeds()[4:], [("lose", 1), ("send", 0, "d")])

    def test_may(self):
        hall = done(3, [("send", 1, "a"), ("ask", 2, 0), ("lose", 1)])
        asks = [("ask", 0, 1), ("ask", 0, 2), ("ask", 1, 0), ("ask", 1, 2), ("ask", 2, 0), ("ask", 2, 1)]
        self.same(hall.may(), [("come", 2), ("come", 3), ("lose", 2), ("lose", 3), ("double", 2), ("double", 3), *asks,
                               ("flow",)])
        self.same(Hall(2, True).may(), [("ask", 0, 1), ("ask", 1, 0), ("flow",)])

    def test_every_deed_of_may_is_done_by_a_twin(self):
        for seed in range(24):
            chance = random.Random(seed)
            members, short = KINDS[seed % 8]
            hall, model = Hall(members, short), HallModel(members, short)
            for _ in range(25):
                self.do_both(hall, model, any_deed(chance, model, 0.3))
            before = shown(hall)
            for deed in hall.may():
                one, other = hall.twin(), model.twin()
                self.same(one.do(deed), other.do(deed))
                self.stands_like(one, other)
            self.same(shown(hall), before)


class Standing(ModelCase):

    def test_part_by_part(self):
        hall = done(2, [("send", 1, "b"), ("send", 0, "a"), ("send", 0, "c"), ("come", 3), ("ask", 1, 0),
                        ("ask", 0, 1)])
        self.same(hall.state(), (
            (((((0, 1), (0, 2)), ())), (((1, 1),), ((0, 2),))),
            ((0, 1, "a", (0, 0)), (0, 2, "c", (1, 0)), (1, 1, "b", (0, 0))),
            ((0, 1, ("ask", (2, 0))), (0, 1, ("letter", 0, 1, "a", (0, 0))), (1, 0, ("ask", (0, 1))),
             (1, 0, ("letter", 1, 1, "b", (0, 0)))),
        ))
        short = done(2, [("send", 1, "b"), ("come", 1), ("send", 0, "a"), ("double", 2)], True)
        self.same(short.state(), (
            ((((1, 1), (0, 1)), ()), (((1, 1),), ())), ((0, 1, "a", (0, 1)), (1, 1, "b", (0, 0))),
            ((0, 1, ("short", 0, 1, "a", ((1, 1),))), (0, 1, ("short", 0, 1, "a", ((1, 1),)))),
        ))

    def test_alike_by_other_numbers(self):
        for short in (False, True):
            # The same stands under way by other numbers, turned, and with another past.
            one = done(3, [("send", 0, "a"), ("send", 1, "b")], short)
            other = done(3, [("send", 1, "b"), ("double", 1), ("double", 2), ("lose", 1), ("send", 0, "a"),
                             ("ask", 2, 0), ("lose", 2), ("lose", 7)], short)
            self.same(one.state(), other.state())
            self.assertNotEqual(one.under_way(), other.under_way())
            self.assertNotEqual(one.deeds(), other.deeds())
            self.do_alike(one, other, random.Random(short))

    def do_alike(self, one, other, chance):
        """Two halls that stand alike do alike, flows apart."""
        for _ in range(60):
            deed = chance.choice(one.may()[:-1] + [("send", chance.randrange(3), "c")])
            like = like_deed(one, other, deed)
            self.same(one.do(deed), other.do(like))
            self.same(one.state(), other.state())

    def test_unlike_halls(self):
        deeds = [("send", 0, "a"), ("send", 1, "b"), ("come", 1)]
        base = done(2, deeds)
        for other in [done(2, deeds[:2]), done(2, [("send", 0, "x"), *deeds[1:]]), done(2, [*deeds, ("lose", 2)]),
                      done(2, [*deeds, ("double", 2)]), done(2, [*deeds, ("ask", 0, 1)]), done(3, deeds),
                      done(2, deeds, True), done(2, [("send", 0, "a"), ("come", 1), ("send", 1, "b")])]:
            self.assertNotEqual(base.state(), other.state())
        self.assertNotEqual(done(2, [("ask", 0, 1)]).state(), done(2, [("ask", 1, 0)]).state())
        self.assertNotEqual(Hall(2).state(), Hall(3).state())

    def test_states_are_keys(self):
        hall = done(3, [("send", 0, "a"), ("ask", 1, 2)])
        self.same({hall.state(): 1}[hall.twin().state()], 1)


class All(ModelCase):

    def test_each_history_can_be(self):
        for seed in range(40):
            chance = random.Random(100 + seed)
            members, short = KINDS[seed % 8]
            hall, model = Hall(members, short), HallModel(members, short)
            for _ in range(120):
                self.do_both(hall, model, any_deed(chance, model))
            rows = hall.history()
            self.assertIsNone(first_wrong(members, rows))
            self.same(hall.book().ids(), book_of(members, rows).ids())
            for member in range(members):
                self.same(hall.ids(member), got_by(members, rows, member))

    def test_whole_and_short_alike(self):
        compared = 0
        for seed in range(120):
            chance, members = random.Random(seed), 2 + seed % 4
            whole, short, model = Hall(members), Hall(members, True), HallModel(members)
            for _ in range(60):
                deed = any_deed(chance, model)
                refused = model.refused(deed)
                if refused is not None or (deed[0] in ("come", "flow") and self.is_refused(short, deed)):
                    continue
                self.same(whole.do(deed), short.do(deed))
                model.do(deed)
                compared += 1
            self.same(whole.history(), short.history())
            self.same([whole.ids(k) for k in range(members)], [short.ids(k) for k in range(members)])
        self.assertGreater(compared, 2000)

    def is_refused(self, short, deed):
        """Whether a short letter is refused for what lacks by this come or flow."""
        hall = short.twin()
        numbers = [deed[1]] if deed[0] == "come" else []
        while numbers or (deed == ("flow",) and hall.under_way()):
            number = numbers.pop() if numbers else hall.under_way()[0][0]
            way = [way for way in hall.under_way() if way[0] == number][0]
            hall.do(("come", number))
            if way[3][0] == "short" and way[3][1:3] not in hall.ids(way[2]) + hall.held(way[2]):
                return True
        return False

    def test_flow_asks_flow_asks_flow(self):
        for seed in range(80):
            chance = random.Random(200 + seed)
            members, short = KINDS[seed % 8]
            hall, model = Hall(members, short), HallModel(members, short)
            for _ in range(70):
                self.do_both(hall, model, any_deed(chance, model))
            one = chance.randrange(members)
            others = [member for member in range(members) if member != one]
            for deeds in [[("flow",)], [("ask", one, other) for other in others], [("flow",)],
                          [("ask", other, one) for other in others], [("flow",)]]:
                for deed in deeds:
                    hall.do(deed)
            sent = sorted(hall.book().ids())
            for member in range(members):
                self.same(sorted(hall.ids(member)), sent)
                self.same(hall.held(member), [])
            self.same(hall.under_way(), [])
            self.assertIsNone(first_wrong(members, hall.history()))


if __name__ == "__main__":
    unittest.main()
