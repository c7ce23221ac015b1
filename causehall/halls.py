"""Halls: members with their ears, and roads between them, changed by deeds."""

from causehall.books import Book
from causehall.counts import Counts
from causehall.ears import Ear
from causehall.errors import Full, Lacks, NoDeed
from causehall.forms import MOST_LETTERS, are_two_members, check_member, check_members, is_member
from causehall.letters import Letter
from causehall.roads import Roads
from causehall.words import is_whole, is_word

ROAD_DEEDS = ("come", "lose", "double")


class Hall:
    """Members, each with an Ear, and Roads between them."""

    def __init__(self, members, short=False):
        check_members(members)
        self._members = members
        self._short = short
        self._ears = [Ear(members, member) for member in range(members)]
        self._roads = Roads(members)
        self._book = Book(members)
        self._history = []
        self._deeds = []

    def do(self, deed):
        """Do a deed; the history rows that happened by it, in order."""
        self._check_deed(deed)
        happened = self._act(deed)
        self._deeds.append(deed)
        self._history.extend(happened)
        return happened

    def members(self):
        """How many members there are."""
        return self._members

    def is_short(self):
        """Whether the letters on the roads are short."""
        return self._short

    def ids(self, member):
        """The ids that the member delivered, in order."""
        check_member(member, self._members)
        return self._ears[member].ids()

    def held(self, member):
        """The ids that the member holds back, rising."""
        check_member(member, self._members)
        return self._ears[member].held()

    def wants(self, member):
        """The ids that the member lacks for those that it holds back, rising."""
        check_member(member, self._members)
        return self._ears[member].wants()

    def under_way(self):
        """All that is under way, rising by numbers."""
        return self._roads.under_way()

    def history(self):
        """All that happened, in order."""
        return list(self._history)

    def deeds(self):
        """All deeds that were done, in order."""
        return list(self._deeds)

    def book(self):
        """A Book of all letters that were sent, in order."""
        return self._book.twin()

    def may(self):
        """All deeds, but sends, that may be done."""
        return [*self._road_deeds(), *self._asks(), ("flow",)]

    def twin(self):
        """A hall that stands alike, which goes its own way from then on."""
        twin = Hall(self._members, self._short)
        self._copy_to(twin)
        return twin

    def state(self):
        """How it stands: what each member has, all letters, and all that is under way."""
        members = [(tuple(ear.ids()), tuple(ear.held())) for ear in self._ears]
        letters = [self._book.letter(ident) for ident in sorted(self._book.ids())]
        ways = sorted([way[1:] for way in self._roads.under_way()])
        return (tuple(members), tuple([parts_of(letter) for letter in letters]), tuple(ways))

    def _check_deed(self, deed):
        """Refuse what is no deed."""
        if not is_hall_deed(deed, self._members):
            raise NoDeed(deed)

    def _act(self, deed):
        """What happens by a deed of right form."""
        word = deed[0]
        if word == "send":
            return self._send(deed[1], deed[2])
        if word == "ask":
            self._roads.put(deed[1], deed[2], ("ask", self._ears[deed[1]].counts().told()))
            return []
        if word == "flow":
            return self._flow()
        return self._on_road(word, deed[1])

    def _on_road(self, word, number):
        """What happens by what the thing of this number does."""
        if word == "come":
            return self._come(number)
        if word == "lose":
            self._roads.lose(number)
        else:
            self._roads.double(number)
        return []

    def _send(self, member, word):
        """The member sends the word to all others."""
        if len(self._book) == MOST_LETTERS:
            raise Full(MOST_LETTERS)
        letter = self._ears[member].send(word)
        self._book.keep(letter)
        for other in range(self._members):
            if other != member:
                self._put_letter(member, other, letter)
        return [("sent", member, word), *self._behind(member)]

    def _come(self, number):
        """The thing of this number comes to its goal."""
        start, goal, thing = self._roads.come(number)
        return self._reach(start, goal, thing)

    def _flow(self):
        """All that is under way comes, the least number first, and what is put on the roads by it."""
        happened = []
        while len(self._roads) > 0:
            happened.extend(self._come(self._roads.numbers()[0]))
        return happened

    def _reach(self, start, goal, thing):
        """What happens where the thing comes from the one member to the other."""
        if thing[0] == "ask":
            for letter in self._ears[goal].answers(Counts(thing[1])):
                self._put_letter(goal, start, letter)
            return []
        delivered = self._take(goal, thing)
        if len(delivered) == 0:
            return []
        return [*[("got", goal, *ident) for ident in delivered], *self._behind(goal)]

    def _take(self, member, thing):
        """The ids that the member delivers by a letter that comes to it, whole or short."""
        ear = self._ears[member]
        if thing[0] == "letter":
            return ear.take(Letter(thing[1], thing[2], thing[3], Counts(thing[4])))
        short = thing[1:]
        try:
            return ear.take_short(short)
        except Lacks:
            return []

    def _behind(self, member):
        """What happens behind the letters that the member delivered; here nothing."""
        return []

    def _put_letter(self, start, goal, letter):
        """Put a letter that the one member has on the road to the other."""
        if self._short:
            thing = ("short", *self._ears[start].short(letter.id_of()))
        else:
            thing = ("letter", *parts_of(letter))
        self._roads.put(start, goal, thing)

    def _road_deeds(self):
        """The comes, losses and doublings that may be done."""
        numbers = self._roads.numbers()
        return [(word, number) for word in ROAD_DEEDS for number in numbers]

    def _asks(self):
        """The asks of all members to all others, rising."""
        members = range(self._members)
        return [("ask", member, other) for member in members for other in members if member != other]

    def _copy_to(self, twin):
        """Let the new hall stand like this one."""
        twin._ears = [ear.twin() for ear in self._ears]
        twin._roads = self._roads.twin()
        twin._book = self._book.twin()
        twin._history = list(self._history)
        twin._deeds = list(self._deeds)


def is_hall_deed(thing, members):
    """Whether the thing has the form of a deed of a Hall of so many members."""
    if not isinstance(thing, tuple) or len(thing) == 0:
        return False
    word, parts = thing[0], thing[1:]
    if word == "send":
        return len(parts) == 2 and is_member(parts[0], members) and is_word(parts[1])
    if word == "ask":
        return are_two_members(parts, members)
    if word in ROAD_DEEDS:
        return len(parts) == 1 and is_whole(parts[0], 0)
    return word == "flow" and len(parts) == 0


def parts_of(letter):
    """The sender, the number, the word and the row of a letter, the row as a tuple."""
    return (letter.sender(), letter.number(), letter.word(), letter.causes().told())
