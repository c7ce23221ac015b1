"""Seats: what a member has of the one order, and how the seat is handed on."""

from causehall.errors import NoMember, NoRow, NoSeat, NoThing
from causehall.forms import check_member, check_members, is_ident, is_list
from causehall.words import is_whole


class Seat:
    """A member's row of the order, how much of it is sure, and whether the member has the seat."""

    def __init__(self, members, member):
        check_members(members)
        check_member(member, members)
        self._members = members
        self._member = member
        self._term = 0
        self._hop = 0
        self._row = ()
        self._row_term = 0
        self._sure = 0
        self._seated = member == 0
        # None where it does not call.
        self._answers = None
        self._lengths = {}

    def call(self):
        """Call for the seat in the next term of its own."""
        ahead = (self._member - self._term - 1) % self._members
        self._enter(self._term + 1 + ahead, 0)
        self._answers = {self._member: (self._row_term, self._row, self._sure)}
        return self._to_others(("call", self._term))

    def hand(self, other):
        """Hand the seat on to another member."""
        self._check_other(other)
        self._check_seated()
        self._hop += 1
        self._leave()
        return [(other, self._row_told("seat"))]

    def again(self):
        """Tell its row to all others once more."""
        self._check_seated()
        return self._to_others(self._row_told("row"))

    def give_numbers(self, idents):
        """Number the ids that have no number yet, where it has the seat."""
        if not is_list(idents) or not are_idents(idents, self._members):
            raise NoRow(idents)
        if not self._seated:
            return []
        row = list(self._row)
        for ident in idents:
            if ident not in row:
                row.append(ident)
        if len(row) == len(self._row):
            return []
        self._row = tuple(row)
        return self.again()

    def hear(self, start, thing):
        """Hear a thing from another member; what it tells by it."""
        self._check_other(start)
        if not is_seat_thing(thing, start, self._members):
            raise NoThing(thing)
        word = thing[0]
        if word == "call":
            return self._hear_call(start, thing[1])
        if word == "yes":
            return self._hear_yes(start, thing[1], thing[2:])
        if word == "row":
            return self._hear_row(start, thing)
        if word == "has":
            return self._hear_has(start, thing[1], thing[2])
        return self._hear_seat(thing)

    def member(self):
        """The member itself."""
        return self._member

    def term(self):
        """Its term."""
        return self._term

    def hop(self):
        """Its hop."""
        return self._hop

    def row(self):
        """Its row of ids."""
        return list(self._row)

    def row_term(self):
        """The term of its row."""
        return self._row_term

    def sure(self):
        """How many of its row are sure."""
        return self._sure

    def has_seat(self):
        """Whether it has the seat."""
        return self._seated

    def answered(self):
        """The members of whom it has answers, rising, or None where it does not call."""
        if self._answers is None:
            return None
        return sorted(self._answers)

    def state(self):
        """How it stands."""
        answers = None
        if self._answers is not None:
            answers = tuple([(member, *self._answers[member]) for member in sorted(self._answers)])
        lengths = tuple([(member, self._lengths[member]) for member in sorted(self._lengths)])
        return (self._term, self._hop, self._row_term, self._row, self._sure, self._seated, answers, lengths)

    def kept(self):
        """A Seat that has what stays when the member stops."""
        kept = Seat(self._members, self._member)
        kept._enter(self._term, self._hop)
        kept._take_row(self._row, self._row_term, self._sure)
        return kept

    def twin(self):
        """A Seat that stands alike, which goes its own way from then on."""
        twin = self.kept()
        twin._seated = self._seated
        if self._answers is not None:
            twin._answers = dict(self._answers)
        twin._lengths = dict(self._lengths)
        return twin

    def _hear_call(self, start, term):
        """Another member calls for the seat in this term."""
        if term > self._term:
            self._enter(term, 0)
        if term != self._term or self._row_term >= term:
            return []
        return [(start, ("yes", term, self._row_term, self._row, self._sure))]

    def _hear_yes(self, start, term, answer):
        """Another member answers the call of this term by its row's term, its row and how many are sure."""
        if self._answers is None or term != self._term or start in self._answers:
            return []
        self._answers[start] = answer
        if not self._are_most(len(self._answers)):
            return []
        answers = self._answers
        # Of several that are as good the first one is taken, which is the least member.
        best = max(sorted(answers), key=lambda member: (answers[member][0], len(answers[member][1])))
        sure = max([answers[member][2] for member in answers])
        return self._sit(term, 0, answers[best][1], sure)

    def _hear_row(self, start, thing):
        """The one that has the seat tells its row."""
        _, term, hop, row, sure = thing
        if term < self._term:
            return []
        if term > self._term:
            self._enter(term, hop)
        self._hop = max(self._hop, hop)
        self._answers = None
        most = max(self._sure, sure)
        if self._row_term < term or len(self._row) < len(row):
            self._take_row(row, term, most)
        else:
            self._take_row(self._row, self._row_term, most)
        return [(start, ("has", term, len(self._row)))]

    def _hear_has(self, start, term, length):
        """Another member has so much of the row of this term."""
        if not self._seated or term != self._term:
            return []
        self._lengths[start] = max(length, self._lengths.get(start, 0))
        before = self._sure
        self._take_row(self._row, self._row_term, max(before, self._length_of_most()))
        if self._sure == before:
            return []
        return self.again()

    def _hear_seat(self, thing):
        """Another member hands the seat on to this one."""
        _, term, hop, row, sure = thing
        if (term, hop) <= (self._term, self._hop):
            return []
        return self._sit(term, hop, row, max(self._sure, sure))

    def _enter(self, term, hop):
        """Go over to a term and a hop, without the seat and without a call."""
        self._term = term
        self._hop = hop
        self._answers = None
        self._leave()

    def _leave(self):
        """Have the seat no more."""
        self._seated = False
        self._lengths = {}

    def _sit(self, term, hop, row, sure):
        """Have the seat of this term and hop, with this row, which is told to all others."""
        self._enter(term, hop)
        self._take_row(row, term, sure)
        self._seated = True
        return self.again()

    def _take_row(self, row, term, sure):
        """Have this row of this term; no more of it is sure than there is."""
        self._row = row
        self._row_term = term
        self._sure = min(sure, len(row))

    def _length_of_most(self):
        """The greatest length that most members have at least, as far as they told."""
        lengths = [len(self._row)]
        for member in range(self._members):
            if member != self._member:
                lengths.append(self._lengths.get(member, 0))
        return sorted(lengths, reverse=True)[self._members // 2]

    def _are_most(self, many):
        """Whether so many are more than half of all members."""
        return 2 * many > self._members

    def _row_told(self, word):
        """The thing with this word that tells its row."""
        return (word, self._term, self._hop, self._row, self._sure)

    def _to_others(self, thing):
        """The thing for all others, in the order of the members."""
        return [(other, thing) for other in range(self._members) if other != self._member]

    def _check_other(self, other):
        """Refuse what is no other member."""
        check_member(other, self._members)
        if other == self._member:
            raise NoMember(other)

    def _check_seated(self):
        """Refuse what asks for the seat where it has none."""
        if not self._seated:
            raise NoSeat(self._member)


def is_seat_thing(thing, start, members):
    """Whether the thing has the form of one that a Seat hears from this member."""
    if not isinstance(thing, tuple) or len(thing) == 0:
        return False
    word, parts = thing[0], thing[1:]
    if word == "call":
        return len(parts) == 1 and is_whole(parts[0], 0) and parts[0] % members == start
    if word == "has":
        return len(parts) == 2 and is_whole(parts[0], 0) and is_whole(parts[1], 0)
    if word not in ("yes", "row", "seat") or len(parts) != 4:
        return False
    return is_whole(parts[0], 0) and is_whole(parts[1], 0) and is_sure_row(parts[2], parts[3], members)


def is_sure_row(row, sure, members):
    """Whether these are a tuple of unlike ids, and a number of no more than there are."""
    if not isinstance(row, tuple) or not are_idents(row, members):
        return False
    return len(set(row)) == len(row) and is_whole(sure, 0, len(row))


def are_idents(things, members):
    """Whether all things have the form of ids of so many members."""
    return all([is_ident(thing, members) for thing in things])
