"""All weavings of small halls, promises [121], [122] and [124]."""

import time
import unittest

from causehall.errors import NoMember, TooMany
from causehall.halls import Hall
from causehall.numbered import NumberHall
from causehall.weavepaper import shows_ends
from causehall.weavings import ends_of, ends_paper, surely
from tests.models import NumberModel
from tests.pairs import KINDS, do_both, has_form, new_pair, pair_behind, random_pair, shown
from tests.support import HallCase, no_members

# Few deeds behind which just so many ways to stand are met: the kind, the members, whether lossy, the deeds.
SIX_HUNDRED = [
    ("whole", 4, False, [("send", 3, "a"), ("ask", 1, 2), ("send", 2, "a"), ("double", 2)]),
    ("whole", 4, True, [("ask", 2, 3), ("send", 0, "a"), ("send", 1, "a"), ("ask", 0, 1), ("lose", 7), ("lose", 3)]),
    ("numbers", 2, False, [("send", 1, "a"), ("ask", 1, 0), ("send", 0, "a"), ("again", 0)]),
    ("numbers", 3, True, [("ask", 0, 2), ("double", 1), ("send", 0, "a"), ("send", 2, "a"), ("call", 0), ("lose", 9),
                          ("lose", 6), ("lose", 4), ("lose", 10)]),
]
ONE_MORE = ("numbers", 3, False, [("call", 0), ("lose", 2), ("send", 1, "a"), ("lose", 4)])


def plain_end(model):
    """What each member of the model has."""
    rows = [(tuple(ear.order), tuple(ear.held())) for ear in model.ears]
    if isinstance(model, NumberModel):
        rows = [(*row, tuple(told)) for row, told in zip(rows, model.told)]
    return tuple(rows)


def behind(model, lossy):
    """Each model behind one deed of a weaving."""
    for way in model.ways:
        for word in ("come", "lose") if lossy else ("come",):
            twin = model.twin()
            twin.do((word, way[0]))
            yield twin


def plain_weave(model, lossy, most=600):
    """Each way to stand that is met: the least number of deeds, the end or None, and what is next; None of too many."""
    ways, level, many = {}, {model.state(): model}, 0
    while level:
        further = {}
        for state, there in level.items():
            following = {twin.state(): twin for twin in behind(there, lossy)}
            ways[state] = (many, None if there.ways else plain_end(there), list(following))
            further.update(following)
        if len(set(ways) | set(further)) > most:
            return None
        level, many = {state: twin for state, twin in further.items() if state not in ways}, many + 1
    return ways


def plain_ends(ways):
    """Each end, with the least number of deeds to it."""
    ends = {}
    for many, end, _ in ways.values():
        if end is not None:
            ends[end] = min(many, ends.get(end, many))
    return ends


def all_orders(model, lossy, ends, many=0):
    """The ends by each order of deeds for itself, with the least numbers of deeds."""
    if not model.ways:
        ends[plain_end(model)] = min(many, ends.get(plain_end(model), many))
    for twin in behind(model, lossy):
        all_orders(twin, lossy, ends, many + 1)
    return ends


def small_pairs(many, seed, most_ways=5, most_members=4):
    """Halls of every kind behind deeds at random, with few things under way."""
    for at in range(many):
        members = 2 + at // 3 % (most_members - 1)
        hall, model = random_pair(KINDS[at % 3], members, seed + at, 6 + at % 30)
        while len(model.ways) > 1 + at % most_ways:
            number = model.ways[at * 7 % len(model.ways)][0]
            do_both(hall, model, (("lose", "come", "lose")[number % 3], number))
        yield hall, model


class WeaveCase(HallCase):

    def check(self, hall, model, lossy):
        """The ends, the deeds to them and the paper are as going through all orders tells; how many ways there are."""
        before, ways = shown(hall), plain_weave(model, lossy)
        if ways is None:
            for ask in (ends_of, ends_paper):
                self.same(self.refusal(TooMany, ask, hall, lossy).many, 600)
            self.same(shown(hall), before)
            return 601
        ends = plain_ends(ways)
        told = ends_of(hall, lossy)
        self.same([end for end, _ in told], sorted(ends))
        for item in told:
            self.assertIs(type(item), tuple)
            self.leads_to(hall, *item, lossy)
            self.same(len(item[1]), ends[item[0]])
        self.same(ends_paper(hall, lossy), {state: way[0] for state, way in ways.items()})
        self.same(shown(hall), before)
        return len(ways)

    def leads_to(self, hall, end, deeds, lossy):
        """The deeds are a list of comes and losses that lead a twin to the end."""
        self.assertIs(type(deeds), list)
        self.assertTrue(all(has_form(deed, 2, ("come", "lose") if lossy else ("come",)) for deed in deeds), deeds)
        twin = hall.twin()
        for deed in deeds:
            twin.do(deed)
        self.same(twin.under_way(), [])
        for member, row in enumerate(end):
            self.same(row[:2], (tuple(twin.ids(member)), tuple(twin.held(member))))
            self.same(row[2:], (tuple(twin.told(member)),) if isinstance(hall, NumberHall) else ())


class Ends(WeaveCase):

    def test_small_one(self):
        hall = Hall(2)
        hall.do(("send", 0, "a"))
        hall.do(("send", 0, "b"))
        mine, both = (((0, 1), (0, 2)), ()), ((((0, 1), (0, 2)), ()),) * 2
        self.same(ends_of(hall), [(both, [("come", 1), ("come", 2)])])
        self.same([end for end, _ in ends_of(lossy=True, hall=hall)],
                  [(mine, ((), ())), (mine, ((), ((0, 2),))), (mine, (((0, 1),), ())), both])
        self.same(sorted(ends_paper(hall=hall).values()), [0, 1, 1, 2])
        self.same(sorted(ends_paper(lossy=True, hall=hall).values()), [0, 1, 1, 1, 1, 2, 2, 2, 2])
        self.same(ends_of(hall, False), ends_of(hall))
        self.same(ends_paper(hall, False), ends_paper(hall))

    def test_orders_of_delivery_are_unlike_ends(self):
        hall = Hall(3)
        for deed in [("send", 0, "a"), ("lose", 1), ("send", 1, "b"), ("lose", 3)]:
            hall.do(deed)
        self.same([end[2][0] for end, _ in ends_of(hall)], [((0, 1), (1, 1)), ((1, 1), (0, 1))])

    def test_short_letters_that_are_refused(self):
        hall = Hall(2, True)
        hall.do(("send", 0, "a"))
        hall.do(("send", 0, "b"))
        self.same([end[1] for end, _ in ends_of(hall)], [(((0, 1),), ()), (((0, 1), (0, 2)), ())])

    def test_random_halls(self):
        many, refused, several = 0, 0, 0
        for hall, model in small_pairs(180, 0):
            for lossy in (False, True):
                ways = self.check(hall, model, lossy)
                refused, many = refused + (ways > 600), many + min(ways, 600)
                several += ways <= 600 and len(ends_of(hall, lossy)) > 3
        self.assertGreater(many, 5000)
        self.assertGreater(refused, 5)
        self.assertGreater(several, 40)

    def test_each_order_for_itself(self):
        for hall, model in small_pairs(150, 2000, 3):
            for lossy in (False, True):
                ways = plain_weave(model, lossy, 60)
                if ways is not None:
                    ends = all_orders(model, lossy, {})
                    self.same([(end, len(deeds)) for end, deeds in ends_of(hall, lossy)], sorted(ends.items()))

    def test_nothing_under_way(self):
        for kind in KINDS:
            for members in range(2, 6):
                deeds = [("send", 0, "a"), ("send", 0, "b"), ("lose", 1), ("flow",)]
                hall, model = pair_behind(kind, members, deeds)
                for lossy in (False, True):
                    self.same(ends_of(hall, lossy), [(plain_end(model), [])])
                    self.same(ends_paper(hall, lossy), {hall.state(): 0})
                    self.same(self.check(hall, model, lossy), 1)
                self.same(ends_of(new_pair(kind, members)[0]),
                          [((((), ()) + ((),) * (kind == "numbers"),) * members, [])])

    def test_members_that_have_stopped(self):
        deeds = [("send", 0, "a"), ("stop", 1), ("ask", 0, 1), ("call", 2)]
        hall, model = pair_behind("numbers", 3, deeds)
        while len(model.ways) > 5:
            do_both(hall, model, ("lose", model.ways[-1][0]))
        for lossy in (False, True):
            self.assertGreater(self.check(hall, model, lossy), 10)
        self.assertEqual({end[1] for end, _ in ends_of(hall, True)}, {((), (), ())})
        do_both(hall, model, ("stop", 0))
        do_both(hall, model, ("stop", 2))
        # What comes is lost, too.
        self.same(ends_paper(hall, False), ends_paper(hall, True))
        self.same(len(ends_of(hall)), 1)

    def test_all_at_once(self):
        # Equal things on one road do alike.
        hall, model = pair_behind("whole", 2, [("ask", 0, 1)] * 199)
        self.same(ends_of(hall), [(plain_end(model), [("come", number) for number in range(1, 200)])])
        self.same(len(ends_paper(hall, True)), 200)
        self.same(shows_ends(hall, ends_of(hall), ends_paper(hall)), True)

    def test_just_six_hundred_and_one_more(self):
        for kind, members, lossy, deeds in SIX_HUNDRED:
            hall, model = pair_behind(kind, members, deeds)
            self.same(self.check(hall, model, lossy), 600)
            self.same(len(ends_paper(hall, lossy)), 600)
        kind, members, lossy, deeds = ONE_MORE
        hall, model = pair_behind(kind, members, deeds)
        self.same(len(plain_weave(model, lossy, 700)), 601)
        self.same(self.check(hall, model, lossy), 601)
        for ask in [ends_of, ends_paper, lambda hall: surely(hall, 0), lambda hall: shows_ends(hall, [], {})]:
            self.same(self.refusal(TooMany, ask, hall).many, 600)

    def test_many_more(self):
        for kind in KINDS:
            hall, _ = pair_behind(kind, 5, [("send", at % 5, "tea") for at in range(30)])
            before = shown(hall)
            for lossy in (False, True):
                for ask in [ends_of, ends_paper, lambda hall, lossy: surely(hall, 0, lossy),
                            lambda hall, lossy: shows_ends(hall, [], {}, lossy)]:
                    self.same(self.refusal(TooMany, ask, hall, lossy).many, 600)
            self.same(shown(hall), before)

    def test_told_things_are_the_askers_own(self):
        for hall, model in small_pairs(30, 4000, 3):
            if plain_weave(model, False) is None:
                continue
            before, ends, paper = shown(hall), ends_of(hall), ends_paper(hall)
            told = ends_of(hall)
            for _, deeds in told:
                deeds.append("more")
            told.clear()
            ends_paper(hall).clear()
            self.same(ends_of(hall), ends)
            self.same(ends_paper(hall), paper)
            self.own_list(lambda: ends_of(hall))
            self.same(ends_of(hall.twin()), ends)
            self.same(ends_paper(hall.twin()), paper)
            self.same(shown(hall), before)

    def test_deeds_of_a_weaving_are_not_counted(self):
        hall, model = pair_behind("whole", 2, [("flow",)] * 196 + [("send", 0, "a"), ("send", 1, "b"), ("ask", 0, 1)])
        self.same(self.check(hall, model, True) > 20, True)
        hall.do(("flow",))
        self.same(len(hall.deeds()), 200)


class Surely(WeaveCase):

    def test_small_one(self):
        hall = Hall(3)
        for deed in [("send", 0, "a"), ("come", 1), ("send", 1, "b"), ("lose", 3)]:
            hall.do(deed)
        self.same(surely(hall, 0), ([(0, 1)], []))
        self.same(surely(hall, 2), ([(0, 1), (1, 1)], []))
        self.same(surely(hall, 2, True), ([], [(0, 1), (1, 1)]))
        self.same(surely(lossy=True, member=1, hall=hall), ([(0, 1), (1, 1)], []))
        short = Hall(2, True)
        short.do(("send", 0, "a"))
        short.do(("send", 0, "b"))
        self.same(surely(member=1, hall=short), ([(0, 1)], [(0, 2)]))

    def test_random_halls(self):
        some = sure = 0
        for hall, model in small_pairs(150, 6000, 4):
            before = shown(hall)
            for lossy in (False, True):
                ways = plain_weave(model, lossy)
                for member in range(model.members):
                    if ways is None:
                        self.same(self.refusal(TooMany, surely, hall, member, lossy).many, 600)
                        continue
                    rows = [set(end[member][0]) for end in plain_ends(ways)]
                    told = surely(hall, member, lossy)
                    always = set.intersection(*rows)
                    self.same(told, (sorted(always), sorted(set.union(*rows) - always)))
                    sure, some = sure + len(told[0]), some + len(told[1])
            self.same(shown(hall), before)
        self.assertGreater(sure, 500)
        self.assertGreater(some, 100)

    def test_letters_delivered_ahead(self):
        for kind in KINDS:
            hall, _ = pair_behind(kind, 2, [("send", 0, "a"), ("flow",), ("send", 1, "b")])
            numbers = [way[0] for way in hall.under_way()]
            self.same(surely(hall, 1, True), ([(0, 1), (1, 1)], []))
            self.same(surely(hall, 0, True), ([(0, 1)], [(1, 1)]))
            for number in numbers:
                hall.do(("lose", number))
            self.same(surely(hall, 0), ([(0, 1)], []))
            self.same(surely(hall, 0)[0] is surely(hall, 0)[0], False)

    def test_no_member(self):
        for kind in KINDS:
            for members in range(2, 6):
                hall, _ = pair_behind(kind, members, [("ask", 0, 1)])
                for thing in [*no_members(members), members, -1, True, False]:
                    self.refuses(NoMember, thing, surely, hall, thing)
                    self.refuses(NoMember, thing, surely, hall, lossy=True, member=thing)

    def test_too_many_ahead_of_no_member(self):
        hall, _ = pair_behind(*ONE_MORE[:2], ONE_MORE[3])
        for thing in [*no_members(3)[::9], 3, -1, True, None]:
            self.same(self.refusal(TooMany, surely, hall, thing).many, 600)


class Times(WeaveCase):

    def test_six_hundred_ways(self):
        # Asks that nobody answers, as many on each road as make six hundred ways, beside thirty letters of five.
        asks = [((0, 1), 1), ((0, 2), 1), ((0, 3), 1), ((0, 4), 2), ((1, 0), 4), ((1, 2), 4)]
        deeds = [("send", at % 5, "tea") for at in range(30)] + [("flow",)]
        deeds += [("ask", *road) for road, many in asks for _ in range(many)]
        for kind, lossy in [("whole", False), ("short", True), ("numbers", True)]:
            hall, _ = pair_behind(kind, 5, deeds)
            start = time.process_time()
            paper = ends_paper(hall, lossy)
            self.assertIs(shows_ends(hall, ends_of(hall, lossy), paper, lossy), True)
            self.assertLess(time.process_time() - start, 30)
            self.same(len(paper), 600)


if __name__ == "__main__":
    unittest.main()
