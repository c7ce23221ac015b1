"""Books: closed sets of letters, and the orders of them that keep causes."""

from causehall.counts import Counts
from causehall.errors import Forged, Full, Known, Lacks, NoCauses, NoLetter, NotThere, Unlike
from causehall.forms import MOST_LETTERS, check_members, is_ident, is_list
from causehall.letters import Letter
from causehall.shortrows import changes_of

# Counts packed into one number have five bits for each member, which hold thirty letters and less.
BITS = 5
MOST_IN_BITS = 31


class Book:
    """Letters in the order in which they came in, always a closed set."""

    def __init__(self, members):
        check_members(members)
        self._members = members
        self._letters = {}
        self._counts = Counts([0] * members)
        self._waits = [[] for _ in range(members)]

    def __len__(self):
        return len(self._letters)

    def keep(self, letter):
        """Take in a letter."""
        self._check_new(letter)
        row = letter.causes()
        lacking = ids_beyond(self._counts, row)
        if lacking:
            raise Lacks(lacking)
        if not self._covers_its_causes(row):
            raise NoCauses(row)
        if len(self._letters) == MOST_LETTERS:
            raise Full(MOST_LETTERS)
        # Behind the sender's letter ahead this one waits for what changed in the row alone.
        changes = changes_of(letter, self._letters.get((letter.sender(), letter.number() - 1)))
        self._waits[letter.sender()].append([(BITS * member, count) for member, count in changes])
        self._letters[letter.id_of()] = letter
        self._counts = self._counts.raised(letter.sender())

    def counts(self):
        """How many letters of each member are here."""
        return self._counts

    def ids(self):
        """The ids of all letters, in the order in which they came in."""
        return list(self._letters)

    def letter(self, ident):
        """The letter of this id."""
        if not is_ident(ident, self._members) or ident not in self._letters:
            raise NotThere(ident)
        return self._letters[ident]

    def ahead(self, ident):
        """The ids of all letters ahead of this one, rising."""
        return ids_beyond(Counts([0] * self._members), self.letter(ident).causes())

    def behind(self, ident):
        """The ids of all letters that this one is ahead of, rising."""
        letter = self.letter(ident)
        return sorted([other.id_of() for other in self._letters.values() if letter.is_ahead_of(other)])

    def beside(self, ident):
        """The ids of all letters beside this one, rising."""
        apart = [ident, *self.ahead(ident), *self.behind(ident)]
        return sorted([other for other in self._letters if other not in apart])

    def twin(self):
        """A Book of the same letters, which goes its own way from then on."""
        twin = Book(self._members)
        twin._letters = {ident: letter for ident, letter in self._letters.items()}
        twin._counts = self._counts
        twin._waits = [list(waits) for waits in self._waits]
        return twin

    def direct(self, ident):
        """The ids of the direct causes of this letter, rising."""
        return direct_causes(self._letters, self.letter(ident))

    def many_orders(self):
        """How many orders of all letters keep causes."""
        # Behind a member's last letter stands one that waits for more than there can be.
        never = [(0, MOST_IN_BITS)]
        chains = [(BITS * member, [*waits, never]) for member, waits in enumerate(self._waits)]
        # Beginnings that hold the same letters go on alike, so they are counted together, by their packed counts.
        beginnings = {0: 1}
        for _ in range(len(self._letters)):
            beginnings = longer(beginnings, chains)
        return sum(beginnings.values())

    def is_order(self, thing):
        """Whether the thing is an order of all letters that keeps causes."""
        if not is_list(thing) or len(thing) != len(self._letters):
            return False
        counts = Counts([0] * self._members)
        for ident in thing:
            if not is_ident(ident, self._members) or ident not in self._letters:
                return False
            letter = self._letters[ident]
            if counts.of(letter.sender()) != letter.number() - 1 or not counts.covers(letter.causes()):
                return False
            counts = counts.raised(letter.sender())
        return True

    def places(self, ident):
        """The least and the greatest place of this letter in any order that keeps causes."""
        return (len(self.ahead(ident)), len(self._letters) - 1 - len(self.behind(ident)))

    def _check_new(self, letter):
        """Refuse what is no letter for this book, and one whose id is here."""
        if not isinstance(letter, Letter):
            raise NoLetter(letter)
        if len(letter.causes()) != self._members:
            raise Unlike(letter)
        ident = letter.id_of()
        if ident not in self._letters:
            return
        if self._letters[ident] == letter:
            raise Known(ident)
        raise Forged(letter)

    def _covers_its_causes(self, row):
        """Whether the row has all causes of the letters that it has, which are here."""
        # The last letter of a member has all causes of the ones ahead of it.
        last = [(member, count) for member, count in enumerate(row.told()) if count > 0]
        return all([row.covers(self._letters[ident].causes()) for ident in last])


def longer(beginnings, chains):
    """How many beginnings with one letter more there are, by the packed counts that they have.

    Of each member chains has the place of its bits, and for each of its letters what that one waits for.
    """
    further = {}
    for counts, many in beginnings.items():
        for place, waits in chains:
            for other, count in waits[(counts >> place) & MOST_IN_BITS]:
                if ((counts >> other) & MOST_IN_BITS) < count:
                    break
            else:
                more = counts + (1 << place)
                further[more] = further.get(more, 0) + many
    return further


def ids_beyond(counts, row):
    """The ids of the letters that the row has and the counts have not, rising."""
    members = range(len(row))
    return [(member, number) for member in members for number in range(counts.of(member) + 1, row.of(member) + 1)]


def direct_causes(letters, letter):
    """The ids of the direct causes of the letter, rising, by a dict of letters that has all its causes."""
    # The earlier letters of a member are ahead of its last one that the row has.
    last = [letters[ident] for ident in enumerate(letter.causes().told()) if ident[1] > 0]
    return [cause.id_of() for cause in last if not any([cause.is_ahead_of(other) for other in last])]
