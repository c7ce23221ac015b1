"""Counts: for each member of a hall how many of its letters."""

from causehall.errors import NoCounts, NoNumber, Unlike
from causehall.forms import LEAST_MEMBERS, MOST_MEMBERS, are_changes, check_member, check_members, is_list
from causehall.words import is_whole


class Counts:
    """A row of whole numbers, one for each member; it never changes."""

    def __init__(self, numbers):
        if not is_list(numbers) or not LEAST_MEMBERS <= len(numbers) <= MOST_MEMBERS:
            raise NoCounts(numbers)
        if not all([is_whole(number, 0) for number in numbers]):
            raise NoCounts(numbers)
        self._numbers = tuple(numbers)

    def __len__(self):
        return len(self._numbers)

    def __eq__(self, other):
        return isinstance(other, Counts) and self._numbers == other._numbers

    def __str__(self):
        return " ".join([str(number) for number in self._numbers])

    def __repr__(self):
        return f"Counts{self._numbers!r}"

    def told(self):
        """All numbers, a tuple."""
        return self._numbers

    def of(self, member):
        """The number of one member."""
        check_member(member, len(self._numbers))
        return self._numbers[member]

    def sum_of(self):
        """All numbers summed."""
        return sum(self._numbers)

    def joined(self, other):
        """For each member the greater number of both."""
        self._check_like(other)
        return Counts([max(own, its) for own, its in zip(self._numbers, other.told())])

    def common(self, other):
        """For each member the lesser number of both."""
        self._check_like(other)
        return Counts([min(own, its) for own, its in zip(self._numbers, other.told())])

    def covers(self, other):
        """Whether none of these numbers is less than the other's."""
        self._check_like(other)
        return all([own >= its for own, its in zip(self._numbers, other.told())])

    def stands_to(self, other):
        """In one word how these stand to the other ones."""
        self._check_like(other)
        if self == other:
            return "same"
        if other.covers(self):
            return "ahead"
        if self.covers(other):
            return "behind"
        return "beside"

    def raised(self, member, by=1):
        """The Counts in which the member's number is greater by so much."""
        check_member(member, len(self._numbers))
        if not is_whole(by, 0):
            raise NoNumber(by)
        return self.changed([(member, self._numbers[member] + by)])

    def changes_from(self, other):
        """The changes that lead from the other ones to these, rising."""
        self._check_like(other)
        return [(member, number) for member, number in enumerate(self._numbers) if number != other.of(member)]

    def changed(self, changes):
        """The Counts that these are by the changes."""
        if not are_changes(changes, len(self._numbers), 0):
            raise NoCounts(changes)
        numbers = list(self._numbers)
        for member, count in changes:
            numbers[member] = count
        return Counts(numbers)

    def _check_like(self, other):
        """Refuse what is no Counts of as many members."""
        if not isinstance(other, Counts):
            raise NoCounts(other)
        if len(other) != len(self._numbers):
            raise Unlike(other)


def all_joined(members, rows):
    """The joined ones of all Counts in the list, of none the Counts of noughts."""
    check_members(members)
    if not is_list(rows) or not all([isinstance(row, Counts) and len(row) == members for row in rows]):
        raise NoCounts(rows)
    joined = Counts([0] * members)
    for row in rows:
        joined = joined.joined(row)
    return joined
