"""The plain hall: one row for all, and how many of its letters each member told."""

from causehall.errors import AllTold, Known, Lacks, NoDeed
from causehall.forms import check_member, check_members, is_ident, is_member
from causehall.histories import course_of


class PlainHall:
    """What a NumberHall is for who sees only what is told."""

    def __init__(self, members):
        check_members(members)
        self._members = members
        self._row = []
        self._told = [0] * members

    def __len__(self):
        return len(self._row)

    def __eq__(self, other):
        return isinstance(other, PlainHall) and self.state() == other.state()

    def do(self, deed):
        """Do a plain deed; the id that a tell tells."""
        if not is_plain_deed(deed, self._members):
            raise NoDeed(deed)
        if deed[0] == "tell":
            return self._tell(deed[1])
        self._add(deed[1:])
        return None

    def row(self):
        """The row of ids."""
        return list(self._row)

    def told_by(self, member):
        """How many letters of the row the member told."""
        check_member(member, self._members)
        return self._told[member]

    def state(self):
        """How it stands: the row, and how many each member told."""
        return (tuple(self._row), tuple(self._told))

    def twin(self):
        """A PlainHall that stands alike, which goes its own way from then on."""
        twin = PlainHall(self._members)
        twin._row = list(self._row)
        twin._told = list(self._told)
        return twin

    def _add(self, ident):
        """The id comes to the row's end."""
        sender, number = ident
        if ident in self._row:
            raise Known(ident)
        ahead = (sender, number - 1)
        if number > 1 and ahead not in self._row:
            raise Lacks([ahead])
        self._row.append(ident)

    def _tell(self, member):
        """The id of the next letter of the row, which the member tells."""
        at = self._told[member]
        if at == len(self._row):
            raise AllTold(member)
        self._told[member] += 1
        return self._row[at]


def seen_plain(hall):
    """The PlainHall that a NumberHall is when it is seen so."""
    members = hall.members()
    rows = [hall.told(member) for member in range(members)]
    seen = PlainHall(members)
    for ident in max(rows, key=len):
        seen.do(("add", *ident))
    for member, row in enumerate(rows):
        for _ in row:
            seen.do(("tell", member))
    return seen


def steps_between(one, other):
    """The plain deeds that lead from how the one stands to how the other does, or None where there are none."""
    row, told = one.state()
    row_then, told_then = other.state()
    if len(told) != len(told_then) or row_then[:len(row)] != row:
        return None
    steps = [("add", *ident) for ident in row_then[len(row):]]
    for member, many in enumerate(told):
        if told_then[member] < many:
            return None
        steps.extend([("tell", member)] * (told_then[member] - many))
    return steps


def seen_history(members, rows):
    """The PlainHalls as which a history that can be is seen, at its beginning and behind each row."""
    course_of(members, rows)
    seen = [PlainHall(members)]
    for row in rows:
        behind = seen[-1].twin()
        if row[0] == "told":
            tell_row(behind, row[1], row[3:])
        seen.append(behind)
    return seen


def tell_row(hall, member, ident):
    """The member tells the letter of this id, which comes to the row's end where nobody told it yet."""
    if hall.told_by(member) == len(hall):
        hall.do(("add", *ident))
    hall.do(("tell", member))


def is_plain_deed(thing, members):
    """Whether the thing has the form of a plain deed of so many members."""
    if not isinstance(thing, tuple) or len(thing) == 0:
        return False
    if thing[0] == "add":
        return is_ident(thing[1:], members)
    return thing[0] == "tell" and len(thing) == 2 and is_member(thing[1], members)
