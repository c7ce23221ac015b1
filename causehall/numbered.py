"""Halls with numbers: members that have a Seat each, tell letters in one order, stop, and come up again."""

from causehall.errors import Awake, NoDeed, Stopped
from causehall.forms import are_two_members, check_member, is_member
from causehall.halls import Hall, is_hall_deed
from causehall.seats import Seat

SEAT_THINGS = ("call", "yes", "row", "has", "seat")
ONE_MEMBER_DEEDS = ("call", "again", "stop", "up")
AWAKE_DEEDS = ("send", "ask", "call", "hand", "again", "stop")


class NumberHall(Hall):
    """A Hall of whole letters, each member of which has a Seat, too."""

    def __init__(self, members):
        super().__init__(members)
        self._seats = [Seat(members, member) for member in range(members)]
        self._told = [[] for _ in range(members)]
        self._stopped = [False] * members

    def do(self, deed):
        """Do a deed; the history rows that happened by it, in order."""
        return super().do(deed)

    def members(self):
        """How many members there are."""
        return super().members()

    def is_short(self):
        """Whether the letters on the roads are short; they never are."""
        return super().is_short()

    def ids(self, member):
        """The ids that the member delivered, in order."""
        return super().ids(member)

    def held(self, member):
        """The ids that the member holds back, rising."""
        return super().held(member)

    def wants(self, member):
        """The ids that the member lacks for those that it holds back, rising."""
        return super().wants(member)

    def told(self, member):
        """The ids that the member told, in order."""
        check_member(member, self._members)
        return list(self._told[member])

    def seat(self, member):
        """A twin of the member's Seat."""
        check_member(member, self._members)
        return self._seats[member].twin()

    def has_stopped(self, member):
        """Whether the member has stopped."""
        check_member(member, self._members)
        return self._stopped[member]

    def seats(self):
        """The term, the hop and the member of each that has the seat, rising."""
        return sorted([(seat.term(), seat.hop(), seat.member()) for seat in self._seats if seat.has_seat()])

    def under_way(self):
        """All that is under way, rising by numbers."""
        return super().under_way()

    def history(self):
        """All that happened, in order."""
        return super().history()

    def deeds(self):
        """All deeds that were done, in order."""
        return super().deeds()

    def book(self):
        """A Book of all letters that were sent, in order."""
        return super().book()

    def may(self):
        """All deeds, but sends, that may be done."""
        members = range(self._members)
        awake = [member for member in members if not self._stopped[member]]
        seated = [member for member in members if self._seats[member].has_seat()]
        return [
            *self._road_deeds(), *[ask for ask in self._asks() if ask[1] in awake],
            *[("call", member) for member in awake],
            *[("hand", member, other) for member in seated for other in members if other != member],
            *[("again", member) for member in seated], *[("stop", member) for member in awake],
            *[("up", member) for member in members if member not in awake], ("flow",),
        ]

    def twin(self):
        """A hall that stands alike, which goes its own way from then on."""
        twin = NumberHall(self._members)
        self._copy_to(twin)
        twin._seats = [seat.twin() for seat in self._seats]
        twin._told = [list(told) for told in self._told]
        twin._stopped = list(self._stopped)
        return twin

    def state(self):
        """How it stands: as a Hall, and of each member its Seat, what it told, and whether it has stopped."""
        members, letters, ways = super().state()
        seats = [(self._seats[member].state(), len(self._told[member]), self._stopped[member])
                 for member in range(self._members)]
        return (members, letters, ways, tuple(seats), tuple(max(self._told, key=len)))

    def _check_deed(self, deed):
        """Refuse what is no deed, and one of a member that can't do it as it has stopped, or has not."""
        if not is_number_deed(deed, self._members):
            raise NoDeed(deed)
        if deed[0] in AWAKE_DEEDS and self._stopped[deed[1]]:
            raise Stopped(deed[1])
        if deed[0] == "up" and not self._stopped[deed[1]]:
            raise Awake(deed[1])

    def _act(self, deed):
        """What happens by a deed that was let by."""
        word = deed[0]
        if word == "call":
            self._put_told(deed[1], self._seats[deed[1]].call())
        elif word == "hand":
            self._put_told(deed[1], self._seats[deed[1]].hand(deed[2]))
        elif word == "again":
            self._put_told(deed[1], self._seats[deed[1]].again())
        elif word == "stop":
            self._stop(deed[1])
        elif word == "up":
            self._stopped[deed[1]] = False
        else:
            return super()._act(deed)
        return []

    def _stop(self, member):
        """The member stops; it has what it keeps from then on."""
        self._ears[member] = self._ears[member].kept()
        self._seats[member] = self._seats[member].kept()
        self._stopped[member] = True

    def _reach(self, start, goal, thing):
        """What happens where the thing comes from the one member to the other."""
        if self._stopped[goal]:
            return []
        if thing[0] not in SEAT_THINGS:
            return super()._reach(start, goal, thing)
        self._put_told(goal, self._seats[goal].hear(start, thing))
        return self._behind(goal)

    def _behind(self, member):
        """What happens behind what the member delivered or its Seat heard: it numbers, and tells letters."""
        seat = self._seats[member]
        told = self._told[member]
        delivered = self._ears[member].ids()
        self._put_told(member, seat.give_numbers(delivered))
        happened = []
        for ident in seat.row()[len(told):seat.sure()]:
            if ident not in delivered:
                return happened
            told.append(ident)
            happened.append(("told", member, len(told), *ident))
        return happened

    def _put_told(self, member, told):
        """Put what the member's Seat told on the roads, in order."""
        for goal, thing in told:
            self._roads.put(member, goal, thing)


def is_number_deed(thing, members):
    """Whether the thing has the form of a deed of a NumberHall of so many members."""
    if is_hall_deed(thing, members):
        return True
    if not isinstance(thing, tuple) or len(thing) == 0:
        return False
    if thing[0] == "hand":
        return are_two_members(thing[1:], members)
    return thing[0] in ONE_MEMBER_DEEDS and len(thing) == 2 and is_member(thing[1], members)
