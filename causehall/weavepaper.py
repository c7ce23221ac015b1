"""Papers that show that there are no more ends of weavings, and no shorter ways to them."""

from causehall.errors import NotOnRoad
from causehall.forms import is_list
from causehall.halls import is_hall_deed
from causehall.weavings import end_of, weave, weaving_words
from causehall.words import is_whole


def shows_ends(hall, ends, paper, lossy=False):
    """Whether these are all ends with a shortest list of deeds to each, and the paper shows this."""
    ways = weave(hall, lossy)
    if not is_paper(paper, ways, hall.state()):
        return False
    # Of each end the least number that the paper has with a way of it.
    nearest = {}
    for state, way in ways.items():
        if way.end is not None:
            nearest[way.end] = min(paper[state], nearest.get(way.end, paper[state]))
    if not is_list(ends) or len(ends) != len(nearest):
        return False
    for item, end in zip(ends, sorted(nearest)):
        if not isinstance(item, tuple) or len(item) != 2 or not are_alike(item[0], end):
            return False
        if not leads_to(hall, item[1], end, nearest[end], lossy):
            return False
    return True


def is_paper(thing, ways, start):
    """Whether the thing has just the ways as keys, with a right number of deeds each."""
    if not isinstance(thing, dict) or len(thing) != len(ways):
        return False
    own = {state: state for state in ways}
    for key, number in thing.items():
        if key not in own or not are_alike(key, own[key]) or not is_whole(number, 0):
            return False
    if thing[start] != 0:
        return False
    for state, way in ways.items():
        if any([thing[further] > thing[state] + 1 for further in way.further]):
            return False
    return True


def are_alike(thing, known):
    """Whether the thing is equal to the known one, and has truths and numbers at the same places."""
    return thing == known and has_truths_of(thing, known)


def has_truths_of(thing, known):
    """Whether truths are at the same places in both, which are equal."""
    if isinstance(known, tuple):
        return all([has_truths_of(part, its) for part, its in zip(thing, known)])
    return isinstance(thing, bool) == isinstance(known, bool)


def leads_to(hall, deeds, end, many, lossy):
    """Whether the thing is a list of so many deeds of a weaving that lead to this end."""
    if not is_list(deeds) or len(deeds) != many:
        return False
    words = weaving_words(lossy)
    twin = hall.twin()
    for deed in deeds:
        if not is_hall_deed(deed, hall.members()) or deed[0] not in words:
            return False
        try:
            twin.do(deed)
        except NotOnRoad:
            return False
    return len(twin.under_way()) == 0 and end_of(twin) == end
