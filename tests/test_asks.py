"""Fewest asks, promise [104]."""

import random
import time
import unittest

from causehall.asks import asks_paper, fewest_asks, shows_asks
from causehall.errors import NotQuiet, Stopped, TooMany
from causehall.halls import Hall
from causehall.numbered import NumberHall
from tests.pairs import KINDS, do_both, lose_all, new_pair, random_pair, shown
from tests.support import BIG, HallCase, odd_things

ALL_THREE = (fewest_asks, asks_paper, lambda hall: shows_asks(hall, 0, {}))


def counts_of_ids(ids, members):
    """How many of these ids each member has."""
    return tuple(sum(1 for ident in ids if ident[0] == member) for member in range(members))


def rows_of(hall):
    """The counts of each member, plainly."""
    members = hall.members()
    return tuple(counts_of_ids(hall.ids(member), members) for member in range(members))


def goal_of(hall):
    """The counts where all have all letters."""
    return (counts_of_ids(hall.book().ids(), hall.members()),) * hall.members()


def pairs_of(members):
    """All asks, as pairs."""
    return [(one, other) for one in range(members) for other in range(members) if one != other]


def behind(rows, one, other):
    """The counts behind an ask and its flow."""
    new = list(rows)
    new[one] = tuple(max(both) for both in zip(rows[one], rows[other]))
    return tuple(new)


def plain_paper(start, goal):
    """All counts to which asks lead, with the least numbers of asks, found from the goal backwards."""
    members, reached, level = len(start), {start}, [start]
    leads = {}
    while level:
        following = []
        for rows in level:
            for pair in pairs_of(members):
                leads.setdefault(behind(rows, *pair), set()).add(rows)
                if behind(rows, *pair) not in reached:
                    reached.add(behind(rows, *pair))
                    following.append(behind(rows, *pair))
        level = following
    paper, level = {goal: 0}, [goal]
    while level:
        following = []
        for there in level:
            for rows in sorted(leads.get(there, set()) - set(paper)):
                paper[rows] = paper[there] + 1
                following.append(rows)
        level = following
    assert set(paper) == reached
    return paper


def plainly_shows(hall, number, paper):
    """Whether the paper is one with this number, clause by clause."""
    members, goal = hall.members(), goal_of(hall)
    if type(paper) is not dict or type(number) is not int:
        return False
    for rows, left in paper.items():
        if type(rows) is not tuple or len(rows) != members or type(left) is not int or left < 0:
            return False
        if any(type(row) is not tuple or len(row) != members for row in rows):
            return False
        if any(type(count) is not int or count < 0 for row in rows for count in row):
            return False
    for rows, left in paper.items():
        if (left == 0) != (rows == goal):
            return False
        if any(paper.get(behind(rows, *pair), -2) < left - 1 for pair in pairs_of(members)):
            return False
    return rows_of(hall) in paper and paper[rows_of(hall)] == number


def quiet_halls(many, seed):
    """Quiet halls of two to four members of every kind, behind deeds at random."""
    for at in range(many):
        kind, members = KINDS[at % 3], 2 + at // 3 % 3
        hall, _ = random_pair(kind, members, seed + at, 12 + at % 35)
        for member in range(members):
            if kind == "numbers" and hall.has_stopped(member):
                hall.do(("up", member))
        while hall.under_way() or any(hall.held(member) for member in range(members)):
            lose_all(hall)
            for member in range(members):
                if hall.held(member):
                    hall.do(("ask", member, (member + 1) % members))
                    hall.do(("flow",))
                    if hall.held(member):
                        hall.do(("ask", member, (member + 2) % members))
                        hall.do(("flow",))
                        hall.do(("ask", member, (member + 3) % members) if members == 4 else ("flow",))
                        hall.do(("flow",))
        yield hall


def alone(kind, members, senders):
    """A hall in which each sender's letter came to nobody."""
    hall, _ = new_pair(kind, members)
    for sender in senders:
        hall.do(("send", sender, "tea"))
        lose_all(hall)
    return hall


def least_by_deeds(hall, most):
    """The least number of asks, by going through all of them with twins."""
    halls = {rows_of(hall): hall}
    for many in range(most + 1):
        if any(rows == goal_of(hall) for rows in halls):
            return many
        further = {}
        for there in halls.values():
            for pair in pairs_of(hall.members()):
                twin = there.twin()
                twin.do(("ask", *pair))
                twin.do(("flow",))
                further[rows_of(twin)] = twin
        halls = further
    return None


class AskCase(HallCase):

    def check(self, hall):
        """The number, the asks and the paper are as going through all asks tells; the number."""
        before, wanted = shown(hall), plain_paper(rows_of(hall), goal_of(hall))
        told = fewest_asks(hall)
        self.same((type(told), len(told), type(told[1])), (tuple, 2, list))
        number, asks = told
        self.same(number, wanted[rows_of(hall)])
        self.same(len(asks), number)
        twin = hall.twin()
        for ask in asks:
            self.assertEqual(ask[0], "ask")
            twin.do(ask)
            twin.do(("flow",))
        self.same(rows_of(twin), goal_of(hall))
        paper = asks_paper(hall)
        self.same(paper, wanted)
        self.assertIs(shows_asks(hall, number, paper), True)
        for rows, left in paper.items():
            self.same((type(left), type(rows), {type(row) for row in rows}), (int, tuple, {tuple}))
        self.same(shown(hall), before)
        return number


class Fewest(AskCase):

    def test_random_halls(self):
        numbers = {}
        for hall in quiet_halls(180, 0):
            number = self.check(hall)
            numbers[number] = numbers.get(number, 0) + 1
            if number <= 3:
                self.same(least_by_deeds(hall, 3), number)
        self.assertTrue({0, 1, 2, 3, 4} <= set(numbers), numbers)

    def test_none_needed(self):
        for members in range(2, 5):
            for kind in KINDS:
                hall, _ = new_pair(kind, members)
                self.same(fewest_asks(hall), (0, []))
                self.same(asks_paper(hall), {((0,) * members,) * members: 0})
                hall.do(("send", 1, "a"))
                hall.do(("flow",))
                self.same(fewest_asks(hall=hall), (0, []))
                self.assertIs(shows_asks(hall, 0, asks_paper(hall)), True)

    def test_letters_that_came_to_nobody(self):
        for kind in KINDS:
            self.same(self.check(alone(kind, 2, [1])), 1)
            self.same(self.check(alone(kind, 2, [0, 1])), 2)
            self.same(self.check(alone(kind, 3, [0, 0, 1])), 3)
            self.same(self.check(alone(kind, 3, [0, 1, 2])), 4)
            self.same(self.check(alone(kind, 4, [2])), 3)
            self.same(self.check(alone(kind, 4, [3, 1])), 4)
            self.same(self.check(alone(kind, 4, [0, 1, 3])), 5)
            self.same(self.check(alone(kind, 4, [0, 1, 2, 3])), 6)
            self.same(self.check(alone(kind, 4, [0, 1, 2, 3, 3, 2, 0])), 6)

    def test_by_deeds_themselves(self):
        for kind in KINDS:
            for senders in [[0], [0, 1], [0, 1, 2], [2, 2, 1]]:
                hall = alone(kind, 3, senders)
                self.same(least_by_deeds(hall, 4), fewest_asks(hall)[0])

    def test_small_paper(self):
        hall = alone("whole", 2, [0, 1, 1])
        self.same(asks_paper(hall=hall), {((1, 0), (0, 2)): 2, ((1, 2), (0, 2)): 1, ((1, 0), (1, 2)): 1,
                                          ((1, 2), (1, 2)): 0})

    def test_told_things_are_the_askers_own(self):
        hall = alone("numbers", 3, [0, 1, 2])
        before = shown(hall)
        number, asks = fewest_asks(hall)
        asks.clear()
        asks_paper(hall).clear()
        self.same(fewest_asks(hall)[0], number)
        self.same(len(fewest_asks(hall)[1]), number)
        self.same(len(asks_paper(hall)), len(plain_paper(rows_of(hall), goal_of(hall))))
        self.same(shown(hall), before)
        twin = hall.twin()
        self.same(fewest_asks(twin), fewest_asks(hall))
        self.same(asks_paper(twin), asks_paper(hall))


class Shows(AskCase):

    def shows(self, hall, number, paper):
        """The answer, which is that of the clauses; what is handed in stays."""
        kept, order = (dict(paper), list(paper)) if type(paper) is dict else (paper, None)
        answer = shows_asks(hall, number, paper)
        self.assertIs(answer, plainly_shows(hall, number, paper), (number, paper))
        self.assertIs(shows_asks(paper=paper, number=number, hall=hall), answer)
        if order is not None:
            self.assertEqual((paper, list(paper)), (kept, order))
        return answer

    def test_other_numbers(self):
        for hall in quiet_halls(18, 400):
            number, _ = fewest_asks(hall)
            paper = asks_paper(hall)
            for other in [number + 1, number - 1, -number, number + 30, BIG]:
                self.assertIs(self.shows(hall, other, paper), other == number)
            for thing in odd_things():
                self.assertIs(self.shows(hall, thing, paper), type(thing) is int and thing == number)
        for senders, truth in [([], False), ([1], True)]:
            hall = alone("whole", 2, senders)
            self.assertIs(self.shows(hall, int(truth), asks_paper(hall)), True)
            self.assertIs(self.shows(hall, truth, asks_paper(hall)), False)
            self.assertIs(self.shows(hall, str(int(truth)), asks_paper(hall)), False)

    def test_no_papers(self):
        hall = alone("whole", 2, [0])
        for thing in odd_things():
            self.assertIs(self.shows(hall, 1, thing), False)
        paper = asks_paper(hall)
        for thing in [list(paper.items()), tuple(paper.items()), list(paper), [paper], (1, paper)]:
            self.assertIs(self.shows(hall, 1, thing), False)

    def test_key_out(self):
        for hall in [alone("short", 2, [0, 1]), alone("whole", 3, [0, 1]), alone("numbers", 3, [1, 1])]:
            number, paper = fewest_asks(hall)[0], asks_paper(hall)
            for key in paper:
                self.assertIs(self.shows(hall, number, {one: paper[one] for one in paper if one != key}), False)
            turned = {one: paper[one] for one in reversed(list(paper))}
            self.assertIs(self.shows(hall, number, turned), True)

    def test_numbers_more_or_less(self):
        yes = no = 0
        for hall in [alone("short", 2, [0, 1]), alone("whole", 3, [0, 1]), alone("numbers", 3, [0, 1, 2])]:
            number, paper, start = fewest_asks(hall)[0], asks_paper(hall), rows_of(hall)
            for key in paper:
                for new in [paper[key] + 1, paper[key] - 1, 0, number, -1, BIG, True, False, None, "1", (1,), [1]]:
                    spoilt = {**paper, key: new}
                    shows = self.shows(hall, spoilt[start], spoilt)
                    yes, no = yes + shows, no + (not shows)
            # With lesser numbers it is a paper still, with a lesser number.
            for less in range(number + 1):
                lesser = {one: min(left, max(less, 1)) for one, left in paper.items()}
                self.assertIs(self.shows(hall, lesser[start], lesser), True)
                self.assertIs(self.shows(hall, lesser[start] + 1, lesser), False)
        self.assertGreater(yes, 20)
        self.assertGreater(no, 400)

    def test_number_that_is_not_the_least(self):
        hall = alone("whole", 2, [0, 1])
        paper = {**asks_paper(hall), rows_of(hall): 1}
        self.assertIs(self.shows(hall, 1, paper), True)
        self.assertIs(self.shows(hall, 2, paper), False)
        self.assertIs(self.shows(hall, 0, {**paper, rows_of(hall): 0}), False)
        self.assertIs(self.shows(hall, 3, {**paper, rows_of(hall): 3}), False)

    def test_tuples_to_which_no_ask_leads(self):
        hall = alone("whole", 2, [0])
        paper = asks_paper(hall)
        self.same(paper, {((1, 0), (0, 0)): 1, ((1, 0), (1, 0)): 0})
        for more, wanted in [
            # Counts beyond those of all letters sent never come to the goal, and may have any number from 1 on.
            ({((2, 0), (2, 0)): 1}, True), ({((2, 0), (2, 0)): 99}, True), ({((2, 0), (2, 0)): 0}, False),
            ({((1, 1), (1, 1)): 5}, True), ({((0, 0), (0, 0)): 1}, True), ({((0, 0), (0, 0)): 0}, False),
            ({((BIG, 0), (BIG, 0)): BIG}, True), ({((0, 0), (1, 0)): 1}, True), ({((0, 0), (1, 0)): 2}, False),
            ({((0, 0), (1, 0)): 0}, False),
            # Behind an ask all would stand at what is not in it.
            ({((2, 0), (0, 0)): 1}, False), ({((2, 0), (0, 0)): 1, ((2, 0), (2, 0)): 1}, True),
            ({((2, 0), (0, 0)): 1, ((2, 0), (2, 0)): 9}, True), ({((2, 0), (0, 0)): 9, ((2, 0), (2, 0)): 9}, True),
            ({((2, 0), (0, 0)): 11, ((2, 0), (2, 0)): 9}, False), ({((2, 0), (0, 0)): 3, ((2, 0), (2, 0)): 1}, False),
            ({((0, 1), (0, 0)): 1, ((0, 1), (0, 1)): 1}, True),
        ]:
            self.assertIs(self.shows(hall, 1, {**paper, **more}), wanted, more)

    def test_keys_of_other_forms(self):
        hall = alone("whole", 2, [0, 1])
        number, paper = fewest_asks(hall)[0], asks_paper(hall)
        top = (1, 1)
        for key in [None, True, 1, "a", (), top, (top,), (top, top, top), ((1, 1, 1), (1, 1, 1)), ((1,), (1,)),
                    (top, ()), ((2, 2), (2, True)), ((-1, 0), (-1, 0)), ((1, -1), top), (("1", "1"), ("1", "1")),
                    ((None, 1), (1, 1)), (top, 1), ((3, top), top), (top, top, ())]:
            for left in [0, 1, 5]:
                if key not in paper:
                    self.assertIs(self.shows(hall, number, {**paper, key: left}), False, key)
        # A truth in a number's place makes a key equal to a right one, and is none.
        for key in paper:
            spoilt = {one: left for one, left in paper.items() if one != key}
            truths = tuple(tuple(count == 1 if count in (0, 1) else count for count in row) for row in key)
            spoilt[truths] = paper[key]
            self.assertIs(self.shows(hall, number, spoilt), False)
        self.assertIs(self.shows(hall, number, {((1, 0), (0, 1)): 2}), False)
        self.assertIs(self.shows(hall, number, {}), False)

    def test_paper_of_another_hall(self):
        halls = [alone("whole", 2, [0]), alone("whole", 2, [1]), alone("whole", 3, [0]), alone("whole", 3, [0, 0]),
                 alone("whole", 4, [0, 1]), alone("whole", 4, [0, 1, 2])]
        for one in halls:
            for other in halls:
                self.assertIs(self.shows(one, fewest_asks(one)[0], asks_paper(other)), one is other)

    def test_paper_of_what_comes_later(self):
        hall = alone("whole", 3, [0, 1, 2])
        later = hall.twin()
        for ask in fewest_asks(hall)[1][:2]:
            later.do(ask)
            later.do(("flow",))
        self.assertIs(self.shows(hall, 4, asks_paper(later)), False)
        self.assertIs(self.shows(later, 2, asks_paper(later)), True)
        self.assertIs(self.shows(later, 2, asks_paper(hall)), True)

    def test_spoilt_at_random(self):
        yes = no = 0
        for hall in quiet_halls(90, 800):
            chance, number, paper = random.Random(number_of(hall)), fewest_asks(hall)[0], asks_paper(hall)
            for _ in range(12):
                spoilt, key = dict(paper), chance.choice(list(paper))
                kind = chance.randrange(4)
                if kind == 0:
                    del spoilt[key]
                elif kind == 1:
                    spoilt[key] += chance.choice([-1, 1, 2])
                elif kind == 2:
                    place, member = chance.randrange(len(key)), chance.randrange(len(key))
                    row = key[place][:member] + (key[place][member] + chance.choice([-1, 1]),) + key[place][member + 1:]
                    spoilt[key[:place] + (row,) + key[place + 1:]] = chance.randrange(4)
                else:
                    spoilt = {one: max(0, left - 1) if left > 1 else left for one, left in paper.items()}
                shows = self.shows(hall, spoilt.get(rows_of(hall), number), spoilt)
                yes, no = yes + shows, no + (not shows)
        self.assertGreater(yes, 150)
        self.assertGreater(no, 300)


def number_of(hall):
    """A number that tells halls apart, for a chance of its own."""
    return len(hall.deeds()) * 31 + len(hall.history())


class Refused(AskCase):

    def test_five_members(self):
        for hall in [Hall(5), Hall(5, True), NumberHall(5)]:
            for ask in ALL_THREE:
                self.same(self.refusal(TooMany, ask, hall).many, 5)
            hall.do(("send", 0, "a"))
            for ask in ALL_THREE:
                self.same(self.refusal(TooMany, ask, hall).many, 5)
        hall.do(("stop", 0))
        for ask in ALL_THREE:
            self.same(self.refusal(TooMany, ask, hall).many, 5)

    def test_not_quiet(self):
        for kind in KINDS[:2]:
            hall, _ = new_pair(kind, 4)
            hall.do(("send", 0, "a"))
            hall.do(("send", 0, "b"))
            for ask in ALL_THREE:
                self.same(self.refusal(NotQuiet, ask, hall).many, 6)
            for number in (1, 2, 3):
                hall.do(("lose", number))
            for ask in ALL_THREE:
                self.same(self.refusal(NotQuiet, ask, hall).many, 3)
        hall = Hall(4)
        for deed in [("send", 0, "a"), ("send", 0, "b"), ("send", 0, "c")]:
            hall.do(deed)
        # One member holds back two letters, another one holds back one; the rest is under way.
        for deed in [("come", 4), ("come", 7), ("come", 8), ("lose", 1), ("lose", 2)]:
            hall.do(deed)
        for ask in ALL_THREE:
            self.same(self.refusal(NotQuiet, ask, hall).many, 4 + 2 + 1)
        lose_all(hall)
        for ask in ALL_THREE:
            self.same(self.refusal(NotQuiet, ask, hall).many, 3)
        hall.do(("ask", 2, 0))
        hall.do(("flow",))
        for ask in ALL_THREE:
            self.same(self.refusal(NotQuiet, ask, hall).many, 2)

    def test_held_back_by_one(self):
        hall = Hall(2)
        for deed in [("send", 1, "a"), ("send", 1, "b"), ("lose", 1), ("come", 2)]:
            hall.do(deed)
        before = shown(hall)
        for ask in ALL_THREE:
            self.same(self.refusal(NotQuiet, ask, hall).many, 1)
        self.same(shown(hall), before)

    def test_stopped(self):
        hall = NumberHall(4)
        hall.do(("stop", 3))
        for ask in ALL_THREE:
            self.refuses_of(Stopped, 3, ask, hall)
        hall.do(("stop", 1))
        for ask in ALL_THREE:
            self.refuses_of(Stopped, 1, ask, hall)
        hall.do(("send", 0, "a"))
        for ask in ALL_THREE:
            self.same(self.refusal(NotQuiet, ask, hall).many, 6)
        hall.do(("flow",))
        hall.do(("up", 1))
        for ask in ALL_THREE:
            self.refuses_of(Stopped, 3, ask, hall)
        hall.do(("up", 3))
        lose_all(hall)
        self.same(fewest_asks(hall)[0], 2)

    def test_refused_of_any_things(self):
        quiet, held = NumberHall(3), Hall(5)
        quiet.do(("stop", 0))
        for thing in odd_things():
            self.refuses_of(Stopped, 0, shows_asks, quiet, thing, thing)
            self.same(self.refusal(TooMany, shows_asks, held, paper=thing, number=thing).many, 5)


class Times(AskCase):

    def test_four_members_with_letters_of_their_own(self):
        for kind in KINDS:
            hall, model = new_pair(kind, 4)
            for at in range(30):
                do_both(hall, model, ("send", at % 4, "tea"))
            lose_all(hall)
            start = time.process_time()
            number, asks = fewest_asks(hall)
            paper = asks_paper(hall)
            self.assertIs(shows_asks(hall, 6, paper), True)
            self.assertIs(shows_asks(hall, 7, paper), False)
            self.assertLess(time.process_time() - start, 20)
            self.same((number, len(asks)), (6, 6))
            self.assertLessEqual(len(paper), 4096)
            self.assertEqual(paper, plain_paper(rows_of(hall), goal_of(hall)))


if __name__ == "__main__":
    unittest.main()
