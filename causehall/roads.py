"""Roads: things under way from members to others."""

from causehall.errors import NoMember, NotOnRoad
from causehall.forms import check_member, check_members
from causehall.words import is_whole


class Roads:
    """Things under way, by their numbers; of several any may come first."""

    def __init__(self, members):
        check_members(members)
        self._members = members
        self._things = {}
        self._last = 0

    def __len__(self):
        return len(self._things)

    def put(self, start, goal, thing):
        """Put a thing on the road from a member to another one; its number."""
        self._check_road(start, goal)
        self._last += 1
        self._things[self._last] = (start, goal, copied(thing), may_change(thing))
        return self._last

    def come(self, number):
        """The thing of this number comes: where it is from, its goal, and the thing."""
        self._check_under_way(number)
        return told_of(self._things.pop(number))

    def lose(self, number):
        """The thing of this number is lost; told is what would have come."""
        return self.come(number)

    def double(self, number):
        """Another thing, equal to the one of this number, is under way, too; its number."""
        self._check_under_way(number)
        start, goal, thing = told_of(self._things[number])
        return self.put(start, goal, thing)

    def under_way(self):
        """All that is under way, rising by numbers."""
        return [(number, *told_of(kept)) for number, kept in self._things.items()]

    def numbers(self):
        """The numbers of all that is under way, rising."""
        return list(self._things)

    def between(self, start, goal):
        """The numbers of what is under way from the one member to the other, rising."""
        self._check_road(start, goal)
        return [number for number, kept in self._things.items() if kept[:2] == (start, goal)]

    def twin(self):
        """Roads on which the same is under way, which go their own way from then on."""
        twin = Roads(self._members)
        twin._things = dict(self._things)
        twin._last = self._last
        return twin

    def _check_road(self, start, goal):
        """Refuse what is no road from a member to another one."""
        check_member(start, self._members)
        check_member(goal, self._members)
        if start == goal:
            raise NoMember(goal)

    def _check_under_way(self, number):
        """Refuse what is no number of a thing under way."""
        if not is_whole(number, 1) or number not in self._things:
            raise NotOnRoad(number)


def told_of(kept):
    """Where a kept thing is from, its goal, and the thing; one that may change as a copy, as a twin may bear it too."""
    start, goal, thing, changes = kept
    if changes:
        return (start, goal, copied(thing))
    return (start, goal, thing)


def may_change(thing):
    """Whether a list or a dict is in the thing, so that who has it could change it."""
    if isinstance(thing, tuple):
        return any([may_change(part) for part in thing])
    return isinstance(thing, (list, dict))


def copied(thing):
    """The thing with new lists and dicts at each depth; objects stay themselves."""
    if isinstance(thing, list):
        return [copied(part) for part in thing]
    if isinstance(thing, tuple):
        return tuple([copied(part) for part in thing])
    if isinstance(thing, dict):
        return {key: copied(part) for key, part in thing.items()}
    return thing
