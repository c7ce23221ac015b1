"""A hall at rest: what lacks for it, and deeds by which it comes about."""

from causehall.errors import Awake, Stopped
from causehall.forms import is_list
from causehall.numbered import NumberHall, is_number_deed

CALMING_DEEDS = ("up", "ask", "call", "flow")
MOST_FLOWS = 4


def rests(hall):
    """Whether all is delivered, and told, by all members, and nothing is under way."""
    return len(lacks_for_rest(hall)) == 0


def lacks_for_rest(hall):
    """All that lacks for the hall to rest, rising."""
    members = range(hall.members())
    sent = hall.book().ids()
    # What is held back is not delivered, so it lacks too.
    lacking = [("lacks", *lack) for lack in left_out(sent, [hall.ids(member) for member in members])]
    if isinstance(hall, NumberHall):
        lacking.extend([("untold", *lack) for lack in left_out(sent, [hall.told(member) for member in members])])
    lacking.extend([("asleep", member) for member in asleep(hall)])
    lacking.extend([("way", way[0]) for way in hall.under_way()])
    return sorted(lacking)


def calming(hall):
    """Deeds by which the hall comes to rest."""
    twin = hall.twin()
    ahead = len(twin.deeds())
    others = range(1, hall.members())
    steps = [
        [("up", member) for member in asleep(hall)],
        [("flow",)],
        [*[("ask", 0, other) for other in others], ("flow",)],
        [*[("ask", other, 0) for other in others], ("flow",)],
    ]
    for deeds in steps:
        if not rests(twin):
            do_all(twin, deeds)
    if not rests(twin):
        # All is delivered by now, so whoever gets the seat numbers all of it.
        do_all(twin, [("call", foremost(twin)), ("flow",)])
    return twin.deeds()[ahead:]


def is_calming(hall, deeds):
    """Whether the thing is a list of just such deeds, by which the hall comes to rest."""
    if not is_list(deeds):
        return False
    if rests(hall):
        return len(deeds) == 0
    return are_few(hall, deeds) and rests_behind(hall, deeds)


def left_out(sent, rows):
    """Of each member's row of ids those of letters sent that it has not, with the member ahead."""
    return [(member, *ident) for member, row in enumerate(rows) for ident in sent if ident not in row]


def asleep(hall):
    """The members that have stopped, rising."""
    if not isinstance(hall, NumberHall):
        return []
    return [member for member in range(hall.members()) if hall.has_stopped(member)]


def foremost(hall):
    """A member whose term is no less than the others'."""
    return max([(hall.seat(member).term(), member) for member in range(hall.members())])[1]


def do_all(hall, deeds):
    """Do the deeds one behind the other."""
    for deed in deeds:
        hall.do(deed)


def are_few(hall, deeds):
    """Whether all things are calming deeds, of each kind as many as may be."""
    members = hall.members()
    if not all([is_number_deed(deed, members) and deed[0] in CALMING_DEEDS for deed in deeds]):
        return False
    words = [deed[0] for deed in deeds]
    if words.count("up") != len(asleep(hall)) or words.count("ask") > 2 * (members - 1):
        return False
    calls = 1 if isinstance(hall, NumberHall) else 0
    return words.count("call") <= calls and words.count("flow") <= MOST_FLOWS


def rests_behind(hall, deeds):
    """Whether none of the calming deeds is refused, and the hall rests behind them."""
    twin = hall.twin()
    try:
        do_all(twin, deeds)
    except (Stopped, Awake):
        return False
    return rests(twin)
