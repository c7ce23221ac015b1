"""Papers of weavings, promise [123]."""

import functools
import random
import time
import unittest

from causehall.errors import TooMany
from causehall.weavepaper import shows_ends
from causehall.weavings import ends_of, ends_paper
from tests.pairs import KINDS, has_form, new_pair, pair_behind, shown
from tests.support import BIG, HallCase, odd_things
from tests.test_weavings import ONE_MORE, SIX_HUNDRED, plain_end, plain_weave, small_pairs


@functools.lru_cache(maxsize=8)
def ways_of(model, lossy):
    """The ways to stand of a model that changes no more."""
    return plain_weave(model, lossy)


def exactly(one, other):
    """Whether both are equal, and of the same kinds all the way down."""
    if type(one) is not type(other) or one != other:
        return False
    return type(one) is not tuple or all(exactly(part, its) for part, its in zip(one, other))


def plainly_shows(model, ends, paper, lossy):
    """Whether they show all, clause by clause, by the plain model."""
    ways = ways_of(model, lossy)
    if type(paper) is not dict or len(paper) != len(ways):
        return False
    for state in ways:
        if not any(exactly(key, state) for key in paper if key == state):
            return False
    if any(type(number) is not int or number < 0 for number in paper.values()) or paper[model.state()] != 0:
        return False
    if any(paper[following] > paper[state] + 1 for state, way in ways.items() for following in way[2]):
        return False
    if type(ends) not in (list, tuple):
        return False
    words, there = ("come", "lose") if lossy else ("come",), []
    for item in ends:
        if type(item) is not tuple or len(item) != 2 or type(item[1]) not in (list, tuple):
            return False
        end, deeds = item
        nearest = [paper[state] for state, way in ways.items() if way[1] is not None and exactly(way[1], end)]
        if not nearest or len(deeds) != min(nearest) or (there and not there[-1] < end):
            return False
        there.append(end)
        twin = model.twin()
        for deed in deeds:
            if not has_form(deed, model.members, words) or twin.refused(deed) is not None:
                return False
            twin.do(deed)
        if twin.ways or plain_end(twin) != end:
            return False
    return {way[1] for way in ways.values()} - {None} <= set(there)


def truths_for(thing):
    """The thing with truths in the place of each 0 and 1, equal to it."""
    if type(thing) is tuple:
        return tuple(truths_for(part) for part in thing)
    return bool(thing) if type(thing) is int and thing in (0, 1) else thing


def numbers_for(thing):
    """The thing with numbers in the place of each truth, equal to it."""
    if type(thing) is tuple:
        return tuple(numbers_for(part) for part in thing)
    return int(thing) if type(thing) is bool else thing


def one_truth(thing, number):
    """The thing with a truth in the place of one 1 alone, the one of this number; None where there are fewer."""
    seen = [0]

    def spoil(part):
        if type(part) is tuple:
            return tuple(spoil(one) for one in part)
        if type(part) is int and part == 1:
            seen[0] += 1
            return True if seen[0] == number else part
        return part

    spoilt = spoil(thing)
    return spoilt if seen[0] >= number else None


def copied_ends(ends):
    """The ends with new lists of deeds."""
    return [(end, list(deeds)) for end, deeds in ends]


def spoilt_ends(chance, ends, numbers):
    """The list of ends with something out, in, twice, turned about, or otherwise."""
    at = chance.randrange(len(ends))
    end, deeds = ends[at]
    ahead, behind = ends[:at], ends[at + 1:]
    member = chance.randrange(len(end))
    row = end[member]
    rows = [row[::-1], row[:1], (*row, ()), (row[0][:-1], *row[1:]), (row[0][::-1], *row[1:]),
            ((*row[0], (0, 1)), *row[1:]), (list(row[0]), *row[1:]), list(row), (), None]
    others = [end[:member] + (other,) + end[member + 1:] for other in rows]
    others += [truths_for(end), end[::-1], end[1:], (*end, row), list(end), (), None, 1, "end"]
    lists = [ahead + behind, ahead + [ends[at]] * 2 + behind, ends[::-1], ends + [ends[at]], [ends[at]] + ends]
    lists += [ahead, behind]
    lists += [ahead + [(other, deeds)] + behind for other in others]
    lists += [sorted(ahead + [(other, deeds)] + ends[at:], key=repr) for other in others[:6]]
    shuffled = list(deeds)
    chance.shuffle(shuffled)
    place, number = chance.randrange(len(deeds) + 1), chance.choice(numbers)
    deed = deeds[place - 1] if deeds else ("come", number)
    less, more = deeds[:max(place - 1, 0)], deeds[place:]
    changes = [("lose", deed[1]), ("come", deed[1]), ("come", number), ("lose", number), ("double", number), ("flow",),
               ("come", True), ("come", deed[1] + 40), ("come",), ("ask", 0, 1), ("send", 0, "a"), list(deed), None, 1]
    paths = [less + [other] + more for other in changes] + [deeds + [other] for other in changes]
    paths += [shuffled, less + more, deeds[:-1], deeds[1:], deeds + deeds[:1], [deed] + deeds, [], tuple(deeds), None,
              "come", {deed: 1}, dict.fromkeys(deeds), 0, True, ()]
    return lists + [ahead + [(end, path)] + behind for path in paths] + [
        ahead + [other] + behind for other in [[end, deeds], (end,), (end, deeds, 1), end, deeds, None, (deeds, end)]]


def spoilt_papers(chance, paper):
    """The paper with a key out, in, or otherwise, and a number more, less, or of another kind."""
    key = chance.choice(list(paper))
    rest = {one: number for one, number in paper.items() if one != key}
    papers = [rest, {**rest, truths_for(key): paper[key]}, {**rest, numbers_for(key): paper[key]}, {**paper, None: 1},
              {**paper, (): 0}, {**rest, None: 0}, {**rest, key[::-1]: paper[key]}, {**rest, key[1:]: paper[key]},
              {**rest, key[0]: paper[key]}, {**paper, key[::-1]: paper[key]}, list(paper.items()), list(paper), [paper]]
    papers += [{**rest, one_truth(key, number): paper[key]} for number in (1, 2, 5)]
    numbers = [paper[key] + 1, paper[key] + 2, paper[key] - 1, 0, -1, 1, True, False, None, "1", (1,), [1], BIG]
    papers += [{**paper, key: new} for new in numbers]
    papers += [{one: 0 for one in paper}, {one: number + 1 for one, number in paper.items()},
               {one: min(number, 1) for one, number in paper.items()},
               {one: max(0, number - 1) for one, number in paper.items()},
               {one: number == 1 if number < 2 else number for one, number in paper.items()},
               {one: paper[one] for one in reversed(list(paper))}, {}]
    return papers


class ShowsCase(HallCase):

    def shows(self, hall, model, ends, paper, lossy):
        """The answer, which is that of the clauses."""
        answer = shows_ends(hall, ends, paper, lossy)
        self.assertIs(answer, plainly_shows(model, ends, paper, lossy), (hall.deeds(), lossy, ends, paper))
        return answer


def few_ways(many, seed, most):
    """Halls with at most so many ways to stand, lossy or not."""
    for hall, model in small_pairs(many, seed, 4):
        for lossy in (False, True):
            ways = plain_weave(model, lossy, most)
            if ways is not None:
                yield hall, model, lossy


class Shows(ShowsCase):

    def test_what_was_told(self):
        for hall, model, lossy in few_ways(120, 0, 150):
            ends, paper, before = ends_of(hall, lossy), ends_paper(hall, lossy), shown(hall)
            self.assertIs(self.shows(hall, model, ends, paper, lossy), True)
            tuples = tuple((end, tuple(deeds)) for end, deeds in ends)
            self.assertIs(self.shows(hall, model, tuples, paper, lossy), True)
            self.assertIs(shows_ends(lossy=lossy, paper=paper, ends=ends, hall=hall), True)
            self.assertIs(shows_ends(lossy=lossy, paper=paper, ends=[], hall=hall), False)
            if not lossy:
                self.assertIs(shows_ends(hall, ends, paper), True)
                self.assertIs(shows_ends(paper=paper, ends=ends, hall=hall), True)
            if ways_of(model, not lossy) is not None:
                self.shows(hall, model, ends, paper, not lossy)
            self.same(shown(hall), before)
            self.same(ends, ends_of(hall, lossy))
            self.same(list(paper.items()), list(ends_paper(hall, lossy).items()))

    def test_the_other_truth(self):
        hall, model = pair_behind("whole", 2, [("send", 0, "a")])
        for lossy in (False, True):
            ends, paper = ends_of(hall, lossy), ends_paper(hall, lossy)
            self.assertIs(self.shows(hall, model, ends, paper, lossy), True)
            self.assertIs(self.shows(hall, model, ends, paper, not lossy), False)
        rested, there = pair_behind("short", 2, [("send", 0, "a"), ("flow",)])
        for lossy in (False, True):
            for other in (False, True):
                self.assertIs(self.shows(rested, there, ends_of(rested, lossy), ends_paper(rested, lossy), other), True)

    def test_spoilt_ends(self):
        yes = no = 0
        for hall, model, lossy in few_ways(48, 1000, 30):
            chance, ends, paper = random.Random(len(hall.deeds())), ends_of(hall, lossy), ends_paper(hall, lossy)
            numbers = [way[0] for way in hall.under_way()] + [0, 99]
            for spoilt in spoilt_ends(chance, ends, numbers):
                shows = self.shows(hall, model, spoilt, paper, lossy)
                yes, no = yes + shows, no + (not shows)
            self.same(ends, ends_of(hall, lossy))
        self.assertGreater(yes, 200)
        self.assertGreater(no, 2500)

    def test_spoilt_papers(self):
        yes = no = 0
        for hall, model, lossy in few_ways(60, 2000, 40):
            chance, ends, paper = random.Random(len(hall.deeds())), ends_of(hall, lossy), ends_paper(hall, lossy)
            for spoilt in spoilt_papers(chance, paper):
                shows = self.shows(hall, model, ends, spoilt, lossy)
                yes, no = yes + shows, no + (not shows)
            self.same(paper, ends_paper(hall, lossy))
        self.assertGreater(yes, 100)
        self.assertGreater(no, 1000)

    def test_truths_in_the_place_of_numbers(self):
        for kind in KINDS:
            hall, model = pair_behind(kind, 2, [("send", 0, "a"), ("ask", 1, 0)])
            ends, paper = ends_of(hall), ends_paper(hall)
            for key in paper:
                number = 1
                while (spoilt := one_truth(key, number)) is not None:
                    self.assertEqual(spoilt, key)
                    rest = {one: paper[one] for one in paper if one != key}
                    self.assertIs(self.shows(hall, model, ends, {**rest, spoilt: paper[key]}, False), False)
                    number += 1
                self.assertGreater(number, 3)
                self.assertIs(self.shows(hall, model, ends, {**paper, key: bool(paper[key])}, False), False)
            for at, (end, deeds) in enumerate(ends):
                number = 1
                while (spoilt := one_truth(end, number)) is not None:
                    others = ends[:at] + [(spoilt, deeds)] + ends[at + 1:]
                    self.assertIs(self.shows(hall, model, others, paper, False), False)
                    number += 1
                others = ends[:at] + [(end, [one_truth(deed, 1) or deed for deed in deeds])] + ends[at + 1:]
                self.assertIs(self.shows(hall, model, others, paper, False), False)

    def test_numbers_in_the_place_of_truths(self):
        hall, model = pair_behind("numbers", 2, [("send", 0, "a")])
        ends, paper = ends_of(hall), ends_paper(hall)
        spoilt = {numbers_for(key): number for key, number in paper.items()}
        self.assertEqual(spoilt, paper)
        self.assertIs(self.shows(hall, model, ends, spoilt, False), False)

    def test_no_list_of_ends_and_no_paper(self):
        for kind in KINDS:
            hall, model = pair_behind(kind, 2, [("send", 0, "a")])
            ends, paper = ends_of(hall), ends_paper(hall)
            for thing in odd_things():
                self.assertIs(self.shows(hall, model, thing, paper, False), False)
                self.assertIs(self.shows(hall, model, ends, thing, False), False)
                self.assertIs(self.shows(hall, model, thing, thing, False), False)
                self.assertIs(self.shows(hall, model, [thing], paper, False), False)
                self.assertIs(self.shows(hall, model, [(ends[0][0], thing)], paper, False), False)
                self.assertIs(self.shows(hall, model, [(ends[0][0], [thing] * len(ends[0][1]))], paper, False), False)
                self.assertIs(self.shows(hall, model, [(thing, ends[0][1])], paper, False), False)
                self.assertIs(self.shows(hall, model, [(ends[0][0], ends[0][1], thing)], paper, False), False)

    def test_nothing_under_way(self):
        for kind in KINDS:
            hall, model = new_pair(kind, 3)
            end = plain_end(model)
            for ends, wanted in [([(end, [])], True), ([(end, ())], True), (((end, []),), True), ([], False),
                                 ((), False), ([(end, []), (end, [])], False), ([(end, [("come", 1)])], False),
                                 ({end: []}, False)]:
                for lossy in (False, True):
                    self.assertIs(self.shows(hall, model, ends, {hall.state(): 0}, lossy), wanted)
            for paper in [{}, {hall.state(): 1}, {hall.state(): False}, {hall.state(): 0, (): 0}, {hall.state(): -1}]:
                self.assertIs(self.shows(hall, model, [(end, [])], paper, False), False)

    def test_a_loss_where_not_lossy(self):
        hall, model = pair_behind("numbers", 3, [("send", 0, "a"), ("stop", 1), ("stop", 2)])
        ends, paper = ends_of(hall), ends_paper(hall)
        self.same(paper, ends_paper(hall, True))
        lost = [(end, [("lose", number) for _, number in deeds]) for end, deeds in ends]
        self.assertIs(self.shows(hall, model, lost, paper, True), True)
        self.assertIs(self.shows(hall, model, lost, paper, False), False)
        self.assertIs(self.shows(hall, model, ends, paper, True), True)

    def test_other_lists_and_lesser_numbers(self):
        # Of two equal letters any may come, or be lost, first.
        hall, model = pair_behind("whole", 2, [("send", 0, "a"), ("double", 1)])
        (none, _), (both, _) = ends_of(hall, True)
        paper = ends_paper(hall, True)
        self.same(sorted(paper.values()), [0, 1, 1, 2, 2])
        for first in ([("lose", 1), ("lose", 2)], [("lose", 2), ("lose", 1)]):
            for second in ([("come", 2), ("come", 1)], [("lose", 1), ("come", 2)], [("come", 1), ("lose", 2)]):
                self.assertIs(self.shows(hall, model, [(none, first), (both, second)], paper, True), True)
                self.assertIs(self.shows(hall, model, [(none, second), (both, first)], paper, True), False)
                # A paper with lesser numbers is one, but no list is as short as it tells.
                lesser = {key: min(number, 1) for key, number in paper.items()}
                for many in (1, 2):
                    ends = [(none, first[:many]), (both, second[:many])]
                    self.assertIs(self.shows(hall, model, ends, lesser, True), False)

    def test_ends_with_several_ways(self):
        # Ways of one end may stand unlike in their seats; the least number of all counts.
        found = 0
        for hall, model, lossy in few_ways(240, 5000, 80):
            ways = ways_of(model, lossy)
            ends = [way[1] for way in ways.values() if way[1] is not None]
            if len(ends) == len(set(ends)):
                continue
            found += 1
            told, paper = ends_of(hall, lossy), ends_paper(hall, lossy)
            self.assertIs(self.shows(hall, model, told, paper, lossy), True)
            for state, way in ways.items():
                if way[1] is not None and ends.count(way[1]) > 1:
                    for number in range(paper[state] + 1):
                        self.shows(hall, model, told, {**paper, state: number}, lossy)
        self.assertGreater(found, 5)

    def test_of_another_hall(self):
        halls = [pair_behind("whole", 2, deeds) for deeds in [
            [("send", 0, "a")], [("send", 1, "a")], [("send", 0, "b")], [("send", 0, "a"), ("ask", 0, 1)],
            [("ask", 0, 1), ("send", 0, "a"), ("lose", 1)]]]
        for one, (hall, model) in enumerate(halls):
            for other, (there, _) in enumerate(halls):
                shows = self.shows(hall, model, ends_of(there), ends_paper(there), False)
                # The last one stands like the first one, but what is under way has another number.
                self.assertIs(shows, one == other)
        self.same(ends_paper(halls[0][0]), ends_paper(halls[4][0]))

    def test_what_is_handed_in_stays(self):
        for hall, _, lossy in few_ways(30, 7000, 60):
            ends, paper = ends_of(hall, lossy), ends_paper(hall, lossy)
            kept = (copied_ends(ends), list(paper.items()))
            shows_ends(hall, ends, paper, lossy)
            self.same((ends, list(paper.items())), kept)


class Refused(ShowsCase):

    def test_too_many(self):
        kind, members, lossy, deeds = ONE_MORE
        hall, _ = pair_behind(kind, members, deeds)
        for thing in odd_things()[::7]:
            self.same(self.refusal(TooMany, shows_ends, hall, thing, thing, lossy).many, 600)
        for kind, members, lossy, deeds in SIX_HUNDRED:
            hall, _ = pair_behind(kind, members, deeds)
            start = time.process_time()
            ends, paper = ends_of(hall, lossy), ends_paper(hall, lossy)
            self.assertIs(shows_ends(hall, ends, paper, lossy), True)
            self.assertLess(time.process_time() - start, 30)
            self.assertIs(shows_ends(hall, ends[1:], paper, lossy), False)


if __name__ == "__main__":
    unittest.main()
