"""Weavings of a hall: all that can become of it by what is under way, in whatever order."""

from causehall.errors import TooMany
from causehall.forms import check_member
from causehall.numbered import NumberHall

MOST_WAYS = 600


class Way:
    """A way to stand that some weaving meets: a shortest path to it, and the ways that are next."""

    def __init__(self, hall, path):
        self.path = path
        self.further = []
        # None where the weaving goes on.
        self.end = end_of(hall) if len(hall.under_way()) == 0 else None


def ends_of(hall, lossy=False):
    """All ends of weavings, rising, each with a shortest list of deeds to it."""
    paths = {}
    for way in weave(hall, lossy).values():
        # The ways are met one behind the other, so the first one with an end is as near as any.
        if way.end is not None:
            paths.setdefault(way.end, way.path)
    return [(end, list(paths[end])) for end in sorted(paths)]


def ends_paper(hall, lossy=False):
    """From each way to stand that is met to the least number of deeds that lead to it."""
    return {state: len(way.path) for state, way in weave(hall, lossy).items()}


def surely(hall, member, lossy=False):
    """The letters that the member has at all ends, and those that it has at some alone, rising."""
    ends = [end for end, _ in ends_of(hall, lossy)]
    check_member(member, hall.members())
    delivered = [end[member][0] for end in ends]
    idents = sorted({ident for some in delivered for ident in some})
    sure = [ident for ident in idents if all([ident in some for some in delivered])]
    return (sure, [ident for ident in idents if ident not in sure])


def weave(hall, lossy):
    """A dict of all ways to stand that are met, as the state tells them, in the order of how near they are."""
    start = hall.state()
    ways = {start: Way(hall, [])}
    level = [(start, hall)]
    while len(level) > 0:
        following = []
        for state, stands in level:
            way = ways[state]
            for deed in weaving_deeds(stands, lossy):
                twin = stands.twin()
                twin.do(deed)
                reached = twin.state()
                way.further.append(reached)
                if reached not in ways:
                    if len(ways) == MOST_WAYS:
                        raise TooMany(MOST_WAYS)
                    ways[reached] = Way(twin, [*way.path, deed])
                    following.append((reached, twin))
        level = following
    return ways


def weaving_deeds(hall, lossy):
    """The comes, and where lossy the losses, of all that is under way."""
    # Of things that are equal on one road each does the same, so one is enough.
    numbers = {}
    for number, start, goal, thing in hall.under_way():
        numbers.setdefault((start, goal, thing), number)
    return [(word, number) for word in weaving_words(lossy) for number in numbers.values()]


def weaving_words(lossy):
    """The words of the deeds of which weavings are made."""
    if lossy:
        return ("come", "lose")
    return ("come",)


def end_of(hall):
    """Of each member the ids that it delivered, those that it holds back and, in a NumberHall, those that it told."""
    members = range(hall.members())
    rows = [(tuple(hall.ids(member)), tuple(hall.held(member))) for member in members]
    if isinstance(hall, NumberHall):
        rows = [(*rows[member], tuple(hall.told(member))) for member in members]
    return tuple(rows)
