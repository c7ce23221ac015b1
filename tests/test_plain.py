"""The plain hall, promises [131] to [134]."""

import random
import unittest

from causehall.errors import AllTold, Known, Lacks, NoDeed, NoHistory, NoMember, NoNumber, NoRow
from causehall.histories import first_wrong
from causehall.numbered import NumberHall
from causehall.plain import PlainHall, seen_history, seen_plain, steps_between
from tests.pairs import any_deed, do_both, new_pair, shown
from tests.support import BIG, HallCase, Maker, is_number, no_hall_sizes, no_members, odd_but, odd_things, spoilt


class PlainModel:
    """A plain hall of lists."""

    def __init__(self, members):
        self.row, self.told = [], [0] * members

    def refused(self, deed):
        """The refusal of a plain deed of right form, and what it is of; or None."""
        if deed[0] == "tell":
            return (AllTold, deed[1]) if self.told[deed[1]] == len(self.row) else None
        sender, number = deed[1:]
        if (sender, number) in self.row:
            return (Known, (sender, number))
        if number > 1 and (sender, number - 1) not in self.row:
            return (Lacks, [(sender, number - 1)])
        return None

    def do(self, deed):
        if deed[0] == "add":
            self.row.append(deed[1:])
            return None
        self.told[deed[1]] += 1
        return self.row[self.told[deed[1]] - 1]

    def state(self):
        return (tuple(self.row), tuple(self.told))


def done(members, deeds):
    """A PlainHall that did these deeds."""
    hall = PlainHall(members)
    for deed in deeds:
        hall.do(deed)
    return hall


def plain_shown(hall):
    """All that a PlainHall tells."""
    row, told = hall.state()
    return (hall.row(), [hall.told_by(member) for member in range(len(told))], hall.state(), len(hall))


def any_plain_deed(chance, members):
    """A plain deed of right form."""
    if chance.random() < 0.4:
        return ("tell", chance.randrange(members))
    return ("add", chance.randrange(members), chance.choice([1, 1, 2, 3, 4, 5]))


def random_halls(many, seed, steps=20):
    """PlainHalls and their models behind deeds at random."""
    for at in range(many):
        chance, members = random.Random(seed + at), 2 + at % 4
        hall, model = PlainHall(members), PlainModel(members)
        for _ in range(at % (steps + 1)):
            deed = any_plain_deed(chance, members)
            if model.refused(deed) is None:
                hall.do(deed)
                model.do(deed)
        yield hall, model


class PlainCase(HallCase):

    def stands_like(self, hall, model):
        """The PlainHall tells all that the model has."""
        self.same(plain_shown(hall), (model.row, model.told, model.state(), len(model.row)))

    def do_both(self, hall, model, deed):
        """The deed is done, or refused, by both alike."""
        refused = model.refused(deed)
        if refused is None:
            self.same(hall.do(deed), model.do(deed))
        else:
            self.refuses_of(*refused, hall.do, deed)
        return refused is None


class Deeds(PlainCase):

    def test_at_first(self):
        for members in range(2, 6):
            for hall in [PlainHall(members), PlainHall(members=members)]:
                self.stands_like(hall, PlainModel(members))
                self.same(hall.state(), ((), (0,) * members))

    def test_refused_when_made(self):
        for thing in [*no_hall_sizes(), 0, 1, 6, True, "2", None]:
            self.refuses(NoNumber, thing, PlainHall, thing)
            self.refuses(NoNumber, thing, PlainHall, members=thing)

    def test_add_and_tell(self):
        hall = PlainHall(2)
        self.assertIs(hall.do(("add", 1, 1)), None)
        self.same(hall.do(("tell", 0)), (1, 1))
        self.assertIs(hall.do(deed=("add", 0, 1)), None)
        self.assertIs(hall.do(("add", 1, 2)), None)
        self.same([hall.do(("tell", 0)), hall.do(("tell", 1)), hall.do(("tell", 0))], [(0, 1), (1, 1), (1, 2)])
        self.same(plain_shown(hall), ([(1, 1), (0, 1), (1, 2)], [3, 1], (((1, 1), (0, 1), (1, 2)), (3, 1)), 3))

    def test_each_refusal(self):
        hall = done(3, [("add", 0, 1), ("add", 0, 2), ("tell", 1), ("tell", 1)])
        before = plain_shown(hall)
        self.refuses_of(Known, (0, 1), hall.do, ("add", 0, 1))
        self.refuses_of(Known, (0, 2), hall.do, ("add", 0, 2))
        self.refuses_of(Lacks, [(0, 3)], hall.do, ("add", 0, 4))
        self.refuses_of(Lacks, [(1, 1)], hall.do, ("add", 1, 2))
        self.refuses_of(Lacks, [(2, BIG - 1)], hall.do, ("add", 2, BIG))
        self.refuses_of(AllTold, 1, hall.do, ("tell", 1))
        for member in range(3):
            self.refuses_of(AllTold, member, PlainHall(3).do, ("tell", member))
        self.same(plain_shown(hall), before)

    def test_no_deed(self):
        for members in range(2, 6):
            hall = done(members, [("add", 0, 1), ("add", 1, 1), ("tell", 1), ("tell", 1)])
            before, no_member = plain_shown(hall), [*no_members(members), members, -1]
            no_number = [*odd_but(lambda thing: is_number(thing, 1)), 0, -1]
            wrong = [*odd_things(), ("add",), ("add", 0), ("tell",), ("tell", 0, 1), ("told", 0), ["tell", 0], "tell",
                     ("send", 0, "a"), ("flow",), ("come", 1), ("add", 0, 0), ("add", 0, True), ("tell", True),
                     ("add", True, 1), ("tell", members), ("add", members, 1), ("add", (0, 1)), ("Tell", 0)]
            wrong += spoilt(("add", 1, 2), [None, no_member, no_number]) + spoilt(("tell", 0), [None, no_member])
            for deed in wrong:
                self.refuses(NoDeed, deed, hall.do, deed)
                self.refuses(NoDeed, deed, hall.do, deed=deed)
            self.same(plain_shown(hall), before)

    def test_two_refusals_at_once(self):
        # The form goes first: a member that is none with a number that is there, all told by a member that is none.
        hall = done(2, [("add", 0, 1)])
        for deed in [("add", 2, 1), ("add", 0, True), ("tell", 2), ("add", False, 1), ("tell", False)]:
            self.refuses(NoDeed, deed, hall.do, deed)

    def test_random_deeds(self):
        refused = {}
        for at in range(120):
            chance, members = random.Random(at), 2 + at % 4
            both = [(PlainHall(members), PlainModel(members))]
            for _ in range(60):
                hall, model = chance.choice(both)
                deed = any_plain_deed(chance, members)
                reason = model.refused(deed)
                if not self.do_both(hall, model, deed):
                    refused[reason[0]] = refused.get(reason[0], 0) + 1
                for one, other in both:
                    self.stands_like(one, other)
                if chance.random() < 0.03:
                    twin = PlainModel(members)
                    twin.row, twin.told = list(model.row), list(model.told)
                    both.append((hall.twin(), twin))
        self.assertEqual(set(refused), {Known, Lacks, AllTold})
        self.assertGreater(min(refused.values()), 100)


class Telling(PlainCase):

    def test_no_member(self):
        for members in range(2, 6):
            hall = done(members, [("add", 0, 1)])
            for thing in [*no_members(members), members, -1, True, False]:
                self.refuses(NoMember, thing, hall.told_by, thing)
                self.refuses(NoMember, thing, hall.told_by, member=thing)

    def test_rows_are_the_askers_own(self):
        hall = done(2, [("add", 0, 1), ("add", 0, 2), ("tell", 1)])
        before = plain_shown(hall)
        self.own_list(hall.row)
        self.same(plain_shown(hall), before)
        self.same(hall.told_by(member=1), 1)

    def test_equal(self):
        halls = list(random_halls(80, 0, 9))
        for one, model in halls:
            for other, there in halls:
                self.assertIs(one == other, model.state() == there.state())
                self.assertIs(one != other, model.state() != there.state())
        # What came by another order of deeds stands alike.
        self.assertEqual(done(2, [("add", 0, 1), ("add", 1, 1), ("tell", 0)]),
                         done(2, [("add", 0, 1), ("tell", 0), ("add", 1, 1)]))
        self.assertNotEqual(done(2, [("add", 0, 1), ("add", 1, 1)]), done(2, [("add", 1, 1), ("add", 0, 1)]))
        self.assertNotEqual(PlainHall(2), PlainHall(3))

    def test_equal_to_no_other_thing(self):
        for hall, _ in random_halls(12, 100):
            for thing in [*odd_but(lambda thing: isinstance(thing, PlainHall)), hall.state(), hall.row(), [hall]]:
                self.assertIs(hall == thing, False)
                self.assertIs(thing == hall, False)
                self.assertIs(hall != thing, True)

    def test_twins_both_ways_round(self):
        for hall, _ in random_halls(30, 200):
            for first, second in [(0, 1), (1, 0)]:
                both = [hall, hall.twin()]
                self.assertIs(type(both[1]), PlainHall)
                self.assertEqual(both[0], both[1])
                before, number = plain_shown(both[second]), sum(1 for ident in hall.row() if ident[0] == 1) + 1
                both[first].do(("add", 1, number))
                both[first].do(("tell", 1))
                self.same(plain_shown(both[second]), before)
                self.assertNotEqual(both[0], both[1])


def all_short_steps(one, other, most):
    """The shortest of all lists of plain deeds that lead from the one to the other, of at most so many; or None."""
    level = [(one.twin(), [])]
    members = range(len(one.state()[1]))
    for _ in range(most + 1):
        further = []
        for hall, steps in level:
            if hall.state() == other.state():
                return steps
            for deed in [("tell", k) for k in members] + [("add", k, number) for k in members for number in (1, 2, 3)]:
                twin = hall.twin()
                try:
                    twin.do(deed)
                except (Known, Lacks, AllTold):
                    continue
                further.append((twin, [*steps, deed]))
        level = further
    return None


class Steps(PlainCase):

    def test_small_ones(self):
        one = done(2, [("add", 0, 1)])
        other = done(2, [("add", 0, 1), ("add", 1, 1), ("tell", 1), ("add", 1, 2), *[("tell", 0)] * 3])
        self.same(steps_between(one, other), [("add", 1, 1), ("add", 1, 2), *[("tell", 0)] * 3, ("tell", 1)])
        self.same(steps_between(other=other, one=one), steps_between(one, other))
        self.assertIs(steps_between(other, one), None)
        self.same(steps_between(one, one), [])
        self.same(steps_between(one, one.twin()), [])
        self.assertIs(steps_between(PlainHall(2), PlainHall(3)), None)
        self.assertIs(steps_between(PlainHall(3), PlainHall(2)), None)
        for members in range(2, 6):
            self.same(steps_between(PlainHall(members), PlainHall(members)), [])

    def test_where_there_are_none(self):
        base = [("add", 0, 1), ("add", 1, 1), ("tell", 0)]
        hall = done(2, base)
        for deeds in [[("add", 1, 1), ("add", 0, 1), ("tell", 0)], base[:2], base[:1], [("add", 0, 1), ("tell", 0)],
                      [*base[:2], ("tell", 1), ("tell", 1)], [], [("add", 0, 1), ("add", 0, 2), ("tell", 0)]]:
            self.assertIs(steps_between(hall, done(2, deeds)), None)
        for deeds in [[], base[:1], base[:2], [*base[:1], base[2]]]:
            self.assertIs(type(steps_between(done(2, deeds), hall)), list)

    def test_random_pairs(self):
        halls, found = list(random_halls(160, 500, 8)), 0
        for one, model in halls:
            for other, there in halls:
                before, steps = (plain_shown(one), plain_shown(other)), steps_between(one, other)
                begins = model.row == there.row[:len(model.row)] and len(model.told) == len(there.told)
                wanted = begins and all(few <= many for few, many in zip(model.told, there.told))
                self.assertIs(steps is not None, wanted)
                self.same((plain_shown(one), plain_shown(other)), before)
                if wanted:
                    self.leads(one, other, steps)
                    found += len(steps) > 0
        self.assertGreater(found, 500)

    def leads(self, one, other, steps):
        """The steps are adds, then tells, rising, and lead from the one to the other."""
        self.assertIs(type(steps), list)
        words = [deed[0] for deed in steps]
        adds = words.count("add")
        self.same(words, ["add"] * adds + ["tell"] * (len(steps) - adds))
        self.same(steps[adds:], sorted(steps[adds:]))
        twin = one.twin()
        for deed in steps:
            twin.do(deed)
        self.assertEqual(twin, other)

    def test_against_all_lists_of_deeds(self):
        halls = [hall for hall, _ in random_halls(48, 900, 5) if len(hall.state()[1]) == 2]
        for one in halls:
            for other in halls:
                steps = all_short_steps(one, other, 4)
                told = steps_between(one, other)
                if steps is None:
                    self.assertTrue(told is None or len(told) > 4)
                else:
                    self.same(len(told), len(steps))

    def test_lists_are_the_askers_own(self):
        one, other = PlainHall(2), done(2, [("add", 0, 1), ("tell", 0)])
        self.own_list(lambda: steps_between(one, other))


class Seen(PlainCase):

    def test_small_one(self):
        hall = NumberHall(2)
        self.assertEqual(seen_plain(hall), PlainHall(2))
        for deed in [("send", 0, "a"), ("come", 2), ("come", 3)]:
            hall.do(deed)
        self.same(seen_plain(hall=hall).state(), (((0, 1),), (1, 0)))
        hall.do(("flow",))
        self.same(seen_plain(hall).state(), (((0, 1),), (1, 1)))
        self.assertIs(type(seen_plain(hall)), PlainHall)

    def test_random_runs(self):
        steps_done, adds = 0, 0
        for seed in range(120):
            chance = random.Random(seed)
            hall, model = new_pair("numbers", 2 + seed % 4)
            seen = seen_plain(hall)
            for _ in range(90):
                before, deed = shown(hall) if chance.random() < 0.05 else None, any_deed(chance, model)
                behind = seen_plain(hall)
                self.assertEqual(behind, seen)
                if before is not None:
                    self.same(shown(hall), before)
                if not do_both(hall, model, deed):
                    self.assertEqual(seen_plain(hall), seen)
                    continue
                seen = seen_plain(hall)
                self.same(seen.state(), (tuple(max(model.told, key=len)), tuple(map(len, model.told))))
                steps = steps_between(behind, seen)
                self.adds_are_told(behind, steps)
                twin = behind.twin()
                for step in steps:
                    twin.do(step)
                self.assertEqual(twin, seen)
                steps_done, adds = steps_done + len(steps), adds + sum(1 for step in steps if step[0] == "add")
        self.assertGreater(steps_done, 800)
        self.assertGreater(adds, 300)

    def adds_are_told(self, hall, steps):
        """Each letter that comes to the row is told by some member among the steps."""
        told = [hall.told_by(member) + steps.count(("tell", member)) for member in range(len(hall.state()[1]))]
        adds = [step for step in steps if step[0] == "add"]
        self.assertTrue(not adds or max(told) == len(hall) + len(adds))

    def test_goes_its_own_way(self):
        hall = NumberHall(2)
        hall.do(("send", 0, "a"))
        hall.do(("flow",))
        before = shown(hall)
        seen = seen_plain(hall)
        seen.do(("add", 1, 1))
        seen.do(("tell", 1))
        self.same(shown(hall), before)
        self.same(len(seen_plain(hall)), 1)


class SeenHistory(PlainCase):

    def check(self, members, rows):
        """One PlainHall at the beginning and one behind each row, each as the rows told till then are."""
        kept, seen = list(rows), seen_history(members, rows)
        self.assertIs(type(seen), list)
        self.same(len(seen), len(rows) + 1)
        told = [[] for _ in range(members)]
        for at, hall in enumerate(seen):
            self.assertIs(type(hall), PlainHall)
            if at > 0 and rows[at - 1][0] == "told":
                told[rows[at - 1][1]].append(rows[at - 1][3:])
            self.same(hall.state(), (tuple(max(told, key=len)), tuple(map(len, told))))
        self.same(list(rows), kept)
        return seen

    def test_small_one(self):
        rows = [("sent", 0, "a"), ("told", 0, 1, 0, 1), ("got", 1, 0, 1), ("sent", 1, "b"), ("told", 1, 1, 0, 1),
                ("told", 1, 2, 1, 1)]
        first, row = ((0, 1),), ((0, 1), (1, 1))
        self.same([hall.state() for hall in self.check(2, rows)],
                  [((), (0, 0)), ((), (0, 0)), (first, (1, 0)), (first, (1, 0)), (first, (1, 0)), (first, (1, 1)),
                   (row, (1, 2))])
        self.same([hall.state() for hall in seen_history(rows=tuple(rows), members=2)],
                  [hall.state() for hall in seen_history(2, rows)])
        for members in range(2, 6):
            self.same([hall.state() for hall in seen_history(members, [])], [((), (0,) * members)])

    def test_random_histories(self):
        told = 0
        for seed in range(60):
            maker = Maker(2 + seed % 4, 300 + seed).go(20 + 4 * seed)
            told += len(self.check(maker.members, maker.rows)[-1])
        self.assertGreater(told, 200)

    def test_histories_of_halls(self):
        for seed in range(40):
            chance = random.Random(seed)
            hall, model = new_pair("numbers", 2 + seed % 4)
            for _ in range(100):
                do_both(hall, model, any_deed(chance, model))
            rows = hall.history()[:400]
            self.assertEqual(self.check(hall.members(), rows)[-1], seen_plain(hall))

    def test_each_goes_its_own_way(self):
        rows = [("sent", 0, "a"), ("sent", 1, "b"), ("told", 0, 1, 0, 1)]
        seen = seen_history(2, rows)
        kept = [hall.state() for hall in seen]
        for at, hall in enumerate(seen):
            hall.do(("add", 1, 1))
            self.same([one.state() for one in seen[at + 1:]], kept[at + 1:])
        self.own_list(lambda: [hall.state() for hall in seen_history(2, rows)])

    def test_refused(self):
        for thing in [*no_hall_sizes(), 0, 1, 6, True, "2", None]:
            for rows in [[], None, [("got", 0, 1, 1)]]:
                self.refuses(NoNumber, thing, seen_history, thing, rows)
                self.refuses(NoNumber, thing, seen_history, rows=rows, members=thing)
        no_history = odd_but(lambda thing: type(thing) in (list, tuple) and len(thing) == 0)
        for thing in [*no_history, [("sent", 0)], [("sent", 2, "a")], [("told", 0, 0, 0, 1)], [("sent", 0, "a")] * 31,
                      [["sent", 0, "a"]], [("got", 0, 1, 1)] * 401, [("got", 0, 1, 1), None]]:
            self.refuses(NoHistory, thing, seen_history, 2, thing)
            self.refuses(NoHistory, thing, seen_history, rows=thing, members=2)

    def test_rows_that_can_not_be(self):
        for seed in range(40):
            maker = Maker(2 + seed % 4, 600 + seed).go(60)
            chance = random.Random(seed)
            for _ in range(6):
                rows, at = list(maker.rows), chance.randrange(len(maker.rows))
                rows[at:at + chance.randrange(2)] = [chance.choice(maker.rows)]
                wrong = first_wrong(maker.members, rows) if sum(row[0] == "sent" for row in rows) <= 30 else None
                if wrong is not None:
                    self.refuses_of(NoRow, wrong, seen_history, maker.members, rows)
        self.refuses_of(NoRow, (0, "unsent"), seen_history, 2, [("got", 0, 1, 1)])
        self.refuses_of(NoRow, (1, "not got"), seen_history, 2, [("sent", 0, "a"), ("told", 1, 1, 0, 1)])


if __name__ == "__main__":
    unittest.main()
