"""Roads, promises [61] to [63]."""

import random
import unittest

from causehall.books import Book
from causehall.ears import Ear
from causehall.errors import Full, NoMember, NoNumber, NotOnRoad
from causehall.roads import Roads
from tests.support import BIG, HallCase, counts_of, is_number, letter_of, no_hall_sizes, no_members, odd_but, odd_things


class PlainRoads:
    """What is under way, in a plain list."""

    def __init__(self):
        self.ways = []
        self.last = 0

    def put(self, start, goal, thing):
        self.last += 1
        self.ways.append((self.last, start, goal, thing))
        return self.last

    def take(self, number):
        way = next(way for way in self.ways if way[0] == number)
        self.ways.remove(way)
        return way[1:]

    def double(self, number):
        return self.put(*next(way for way in self.ways if way[0] == number)[1:])

    def twin(self):
        twin = PlainRoads()
        twin.ways, twin.last = list(self.ways), self.last
        return twin


def shown(roads, members):
    """All that Roads tell, and what must be the same in all of it."""
    pairs = [(start, goal) for start in range(members) for goal in range(members) if start != goal]
    return (roads.under_way(), [roads.between(start, goal) for start, goal in pairs], len(roads))


def deep_things():
    """Things with lists and dicts at each depth, and ways to change them from outside."""
    inner, table, listed = [1, 2], {"a": [3]}, [["x"], {"k": []}]
    thing = [inner, (table, (inner, [inner])), {(0, (1, "b")): (listed,), True: {"deep": listed}}]

    def change():
        inner.append("spoilt")
        table["a"].append("spoilt")
        table["b"] = "spoilt"
        listed[1]["k"].append("spoilt")
        listed.clear()

    return thing, change


def plain_deep():
    """The same as of deep_things, made anew."""
    return deep_things()[0]


class Putting(HallCase):

    def test_at_first_nothing(self):
        for members in range(2, 6):
            for roads in [Roads(members), Roads(members=members)]:
                self.same(roads.under_way(), [])
                self.same(len(roads), 0)
                self.same(roads.between(0, 1), [])

    def test_number_of_members(self):
        for thing in [*no_hall_sizes(), 0, 1, 6, True, "2", None, BIG]:
            self.refuses(NoNumber, thing, Roads, thing)
            self.refuses(NoNumber, thing, Roads, members=thing)

    def test_numbers_go_on(self):
        roads = Roads(3)
        self.same(roads.put(0, 1, "a"), 1)
        self.same(roads.put(goal=0, thing="b", start=2), 2)
        self.same(roads.double(1), 3)
        self.same(roads.come(3), (0, 1, "a"))
        self.same(roads.put(1, 2, None), 4)
        self.same(roads.lose(4), (1, 2, None))
        self.same(roads.double(number=2), 5)
        self.same(roads.come(number=1), (0, 1, "a"))
        self.same(roads.lose(number=2), (2, 0, "b"))
        self.same(roads.come(5), (2, 0, "b"))
        self.same(roads.under_way(), [])
        self.same(roads.put(0, 1, "c"), 6)

    def test_members(self):
        for members in range(2, 6):
            roads = Roads(members)
            roads.put(0, 1, "a")
            before = shown(roads, members)
            wrong = [*no_members(members), members, -1, True, False, "0"]
            for thing in wrong:
                self.refuses(NoMember, thing, roads.put, thing, 1, "b")
                self.refuses(NoMember, thing, roads.put, 0, thing, "b")
                self.refuses(NoMember, thing, roads.put, thing, "x", "b")
                self.refuses(NoMember, thing, roads.between, thing, 1)
                self.refuses(NoMember, thing, roads.between, 1, thing)
                self.refuses(NoMember, thing, roads.between, thing, thing)
                self.refuses(NoMember, thing, roads.between, goal="x", start=thing)
            for member in range(members):
                self.refuses_of(NoMember, member, roads.put, member, member, "b")
                self.refuses_of(NoMember, member, roads.between, member, member)
            self.same(shown(roads, members), before)
            self.same(roads.put(1, 0, "b"), 2)

    def test_things_of_every_kind(self):
        things = odd_things()
        roads = Roads(2)
        for at, thing in enumerate(things, start=1):
            self.same(roads.put(0, 1, thing), at)
        for at, thing in enumerate(odd_things(), start=1):
            got = roads.under_way()[0]
            self.same(got[:3], (at, 0, 1))
            self.assertIs(type(got[3]), type(thing))
            start, goal, told = roads.come(at)
            self.same((start, goal), (0, 1))
            self.assertIs(type(told), type(thing))
            # Objects of one's own without == are equal to themselves alone.
            self.assertEqual(repr(told).split(" at ")[0], repr(thing).split(" at ")[0])

    def test_objects_are_borne_themselves(self):
        for thing in [counts_of(1, 2), letter_of(0, (0, 1)), Book(2), Ear(3, 1), Roads(2), Full(30)]:
            roads = Roads(2)
            roads.put(0, 1, thing)
            roads.put(1, 0, [thing, {"k": (thing,)}])
            roads.double(1)
            twin = roads.twin()
            for one in [twin, roads]:
                self.assertIs(one.under_way()[0][3], thing)
                self.assertIs(one.come(3)[2], thing)
                self.assertIs(one.lose(1)[2], thing)
                told = one.come(2)[2]
                self.assertIs(told[0], thing)
                self.assertIs(told[1]["k"][0], thing)

    def test_book_that_is_changed_on_its_way(self):
        book = Book(2)
        roads = Roads(2)
        roads.put(0, 1, [book])
        book.keep(letter_of(0, (0, 0)))
        self.same(len(roads.come(1)[2][0]), 1)


class Copies(HallCase):

    def test_changed_behind_the_put(self):
        roads = Roads(2)
        thing, change = deep_things()
        roads.put(0, 1, thing)
        twin = roads.twin()
        roads.double(1)
        change()
        thing.append("spoilt")
        for one in [roads, twin]:
            self.same(one.under_way()[0], (1, 0, 1, plain_deep()))
            self.same(one.come(1), (0, 1, plain_deep()))
        self.same(roads.come(2), (0, 1, plain_deep()))

    def test_what_is_handed_in_is_not_changed(self):
        roads = Roads(2)
        thing, _ = deep_things()
        inner = thing[0]
        roads.put(0, 1, thing)
        roads.come(1)[2][0].append(5)
        self.same(thing, plain_deep())
        self.assertIs(thing[0], inner)

    def spoil(self, told):
        """Change all lists and dicts of what was told."""
        if isinstance(told, (list, tuple)):
            for part in told:
                self.spoil(part)
        if isinstance(told, dict):
            for part in list(told.values()):
                self.spoil(part)
            told["spoilt"] = "spoilt"
        if isinstance(told, list):
            told.append("spoilt")

    def test_changed_in_what_was_told(self):
        roads = Roads(2)
        roads.put(0, 1, deep_things()[0])
        roads.double(1)
        twin = roads.twin()
        self.spoil(roads.under_way())
        self.spoil(twin.under_way())
        self.spoil(roads.between(0, 1))
        self.same(roads.under_way(), [(1, 0, 1, plain_deep()), (2, 0, 1, plain_deep())])
        self.same(twin.under_way(), [(1, 0, 1, plain_deep()), (2, 0, 1, plain_deep())])
        self.same(roads.between(0, 1), [1, 2])
        self.spoil(roads.come(1))
        self.same(roads.under_way(), [(2, 0, 1, plain_deep())])
        self.same(twin.under_way()[0], (1, 0, 1, plain_deep()))
        self.spoil(twin.lose(2))
        self.same(twin.come(1), (0, 1, plain_deep()))
        self.same(roads.lose(2), (0, 1, plain_deep()))

    def test_lists_and_dicts_in_tuples_alone(self):
        for make in [lambda: (1, [2]), lambda: ("a", {"k": 1}), lambda: (((), ([],)), 1),
                     lambda: ((1, 2), (3, ({0: []},)))]:
            roads, thing = Roads(2), make()
            roads.put(0, 1, thing)
            roads.double(1)
            twin = roads.twin()
            for told in [thing, roads.under_way(), twin.under_way(), twin.come(1), roads.lose(2)]:
                self.spoil(told)
            self.same(roads.under_way(), [(1, 0, 1, make())])
            self.same(twin.under_way(), [(2, 0, 1, make())])
            self.same(roads.come(1), (0, 1, make()))

    def test_things_that_never_change(self):
        for thing in [None, "a", (), (1, ("a", (True, None))), counts_of(1, 2), (letter_of(0, (0, 0)), (1,))]:
            roads = Roads(3)
            roads.put(0, 2, thing)
            roads.double(1)
            self.same(roads.under_way(), [(1, 0, 2, thing), (2, 0, 2, thing)])
            self.same(roads.twin().come(2), (0, 2, thing))
            self.same(roads.come(1), (0, 2, thing))

    def test_equal_dicts_with_keys_in_their_order(self):
        roads = Roads(2)
        roads.put(0, 1, {"b": 1, "a": [2], (1, (2,)): {}})
        told = roads.come(1)[2]
        self.same(list(told), ["b", "a", (1, (2,))])
        self.same(told, {"b": 1, "a": [2], (1, (2,)): {}})

    def test_ten_within_one_another(self):
        thing = deepest = []
        for depth in range(9):
            thing = [thing] if depth % 3 == 0 else ({"k": thing} if depth % 3 == 1 else (thing,))
        roads = Roads(2)
        roads.put(0, 1, thing)
        before = repr(thing)
        deepest.append("spoilt")
        self.same(repr(roads.under_way()[0][3]), before)


class UnderWay(HallCase):

    def test_against_a_plain_list(self):
        for seed in range(60):
            chance, members = random.Random(seed), 2 + seed % 4
            both = [(Roads(members), PlainRoads())]
            for _ in range(80):
                roads, plain = chance.choice(both)
                self.step(chance, members, roads, plain)
                if chance.random() < 0.05:
                    both.append((roads.twin(), plain.twin()))
                for one, other in both:
                    self.check(members, one, other)

    def step(self, chance, members, roads, plain):
        """One deed of any kind."""
        numbers = [way[0] for way in plain.ways]
        kind = chance.choice(["put", "put", "come", "lose", "double"])
        if kind == "put" or not numbers:
            start, goal = chance.sample(range(members), 2)
            thing = chance.choice(["a", 5, (1, 2), [3, [4]], {"k": 1}, None])
            self.same(roads.put(start, goal, thing), plain.put(start, goal, thing))
        elif kind == "double":
            number = chance.choice(numbers)
            self.same(roads.double(number), plain.double(number))
        else:
            number = chance.choice(numbers)
            take = roads.come if kind == "come" else roads.lose
            self.same(take(number), plain.take(number))

    def check(self, members, roads, plain):
        """All that is told, against the plain list."""
        self.same(roads.under_way(), plain.ways)
        self.same(len(roads), len(plain.ways))
        for start in range(members):
            for goal in range(members):
                if start != goal:
                    wanted = [way[0] for way in plain.ways if way[1:3] == (start, goal)]
                    self.same(roads.between(start, goal), wanted)

    def test_no_number_under_way(self):
        roads = Roads(3)
        for k in range(5):
            roads.put(k % 3, (k + 1) % 3, ("thing", k))
        roads.come(2)
        roads.lose(4)
        before = shown(roads, 3)
        wrong = [*odd_but(lambda thing: is_number(thing, 1, 5)), 0, 2, 4, 6, -1, True, "1", (1,), [1], {1: 1}, BIG]
        for thing in wrong:
            for ask in [roads.come, roads.lose, roads.double]:
                self.refuses(NotOnRoad, thing, ask, thing)
                self.refuses(NotOnRoad, thing, ask, number=thing)
        self.same(shown(roads, 3), before)
        self.same(roads.put(0, 1, "x"), 6)

    def test_truth_is_no_number(self):
        roads = Roads(2)
        roads.put(0, 1, "a")
        for ask in [roads.come, roads.lose, roads.double]:
            self.refuses(NotOnRoad, True, ask, True)
        self.same(len(roads), 1)

    def test_double_of_a_double(self):
        roads = Roads(2)
        roads.put(1, 0, ["a"])
        self.same([roads.double(1), roads.double(2), roads.double(1)], [2, 3, 4])
        roads.come(1)
        self.same(roads.under_way(), [(2, 1, 0, ["a"]), (3, 1, 0, ["a"]), (4, 1, 0, ["a"])])

    def test_lists_are_the_askers_own(self):
        roads = Roads(2)
        roads.put(0, 1, "a")
        roads.put(0, 1, "b")
        self.own_list(roads.under_way)
        self.own_list(lambda: roads.between(0, 1))
        self.own_list(lambda: roads.between(goal=1, start=0))


class Twins(HallCase):

    def test_both_ways_round(self):
        for first, second in [(0, 1), (1, 0)]:
            roads = Roads(3)
            roads.put(0, 1, [1])
            roads.put(1, 2, [2])
            roads.lose(2)
            both = [roads, roads.twin()]
            self.assertIs(type(both[1]), Roads)
            before = shown(roads, 3)
            self.same(shown(both[1], 3), before)
            self.same(both[first].put(2, 0, "x"), 3)
            self.same(shown(both[second], 3), before)
            self.same(both[second].double(1), 3)
            self.same(both[second].come(1), (0, 1, [1]))
            self.same(both[first].under_way(), [(1, 0, 1, [1]), (3, 2, 0, "x")])
            self.same(both[second].under_way(), [(3, 0, 1, [1])])

    def test_numbers_go_on_from_the_last_one_given(self):
        roads = Roads(2)
        for _ in range(4):
            roads.put(0, 1, "a")
        for number in [4, 2, 3, 1]:
            roads.come(number)
        twin = roads.twin()
        self.same(len(twin), 0)
        self.same(twin.put(1, 0, "b"), 5)
        self.same(twin.twin().double(5), 6)
        self.same(roads.put(1, 0, "c"), 5)


if __name__ == "__main__":
    unittest.main()
