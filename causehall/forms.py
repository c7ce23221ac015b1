"""Forms that several parts ask for, and the bounds of a hall."""

from causehall.errors import NoMember, NoNumber
from causehall.words import is_whole

LEAST_MEMBERS = 2
MOST_MEMBERS = 5
MOST_LETTERS = 30


def is_list(thing):
    """Whether the thing can be handed in as a list."""
    return isinstance(thing, (list, tuple))


def is_member(thing, members):
    """Whether the thing is one of so many members."""
    return is_whole(thing, 0, members - 1)


def are_two_members(thing, members):
    """Whether the thing is a tuple of two unlike ones of so many members."""
    if not isinstance(thing, tuple) or len(thing) != 2:
        return False
    return is_member(thing[0], members) and is_member(thing[1], members) and thing[0] != thing[1]


def is_ident(thing, members, high=None):
    """Whether the thing has the form of an id of one of so many members."""
    if not isinstance(thing, tuple) or len(thing) != 2:
        return False
    return is_member(thing[0], members) and is_whole(thing[1], 1, high)


def are_changes(thing, members, low, high=None):
    """Whether the thing is a list of tuples of a member and a count, no member twice."""
    if not is_list(thing):
        return False
    changed = []
    for change in thing:
        if not isinstance(change, tuple) or len(change) != 2:
            return False
        member, count = change
        if not is_member(member, members) or not is_whole(count, low, high) or member in changed:
            return False
        changed.append(member)
    return True


def check_members(members):
    """Refuse what is no number of members of a hall."""
    if not is_whole(members, LEAST_MEMBERS, MOST_MEMBERS):
        raise NoNumber(members)


def check_member(member, members):
    """Refuse what is no one of so many members."""
    if not is_member(member, members):
        raise NoMember(member)
