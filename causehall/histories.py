"""Histories: what happened at the members, row by row."""

from causehall.books import Book
from causehall.counts import Counts
from causehall.errors import NoHistory, NoRow
from causehall.forms import MOST_LETTERS, check_member, check_members, is_ident, is_list, is_member
from causehall.letters import Letter
from causehall.words import is_whole, is_word

MOST_ROWS = 400


def is_history(members, rows):
    """Whether the thing is a list of history rows, whatever they say."""
    check_members(members)
    if not is_list(rows) or len(rows) > MOST_ROWS:
        return False
    if not all([is_row(row, members) for row in rows]):
        return False
    return len([row for row in rows if row[0] == "sent"]) <= MOST_LETTERS


def first_wrong(members, rows):
    """The place of the first row that can't be, and why, or None."""
    check_history(members, rows)
    return Course(members).follow(rows)


def book_of(members, rows):
    """All letters that were sent, in the order in which they were sent."""
    return course_of(members, rows).book()


def got_by(members, rows, member):
    """The ids that the member delivered, in order."""
    course = course_of(members, rows)
    check_member(member, members)
    return course.got(member)


def told_by(members, rows, member):
    """The ids that the member told, in order."""
    course = course_of(members, rows)
    check_member(member, members)
    return course.told(member)


def longest_told(members, rows):
    """The longest row of ids that any member told."""
    course = course_of(members, rows)
    return max([course.told(member) for member in range(members)], key=len)


def alike_to(members, rows, others):
    """The members to which both histories look alike, rising."""
    check_history(members, rows)
    check_history(members, others)
    return [member for member in range(members) if own_rows(rows, member) == own_rows(others, member)]


class Course:
    """What the members have sent, delivered and told behind some rows of a history."""

    def __init__(self, members):
        self._book = Book(members)
        self._counts = [Counts([0] * members) for _ in range(members)]
        self._got = [[] for _ in range(members)]
        self._told = [[] for _ in range(members)]

    def follow(self, rows):
        """Go on by the rows as far as they can be; the first that can't be, and why, or None."""
        for place, row in enumerate(rows):
            word = self._why_not(row)
            if word is not None:
                return (place, word)
            self._happen(row)
        return None

    def book(self):
        """All letters that were sent, in order."""
        return self._book.twin()

    def got(self, member):
        """The ids that the member delivered, in order."""
        return list(self._got[member])

    def told(self, member):
        """The ids that the member told, in order."""
        return list(self._told[member])

    def _why_not(self, row):
        """Why the row can't be here, or None."""
        if row[0] == "got":
            return self._why_not_got(row[1], row[2:])
        if row[0] == "told":
            return self._why_not_told(row[1], row[2], row[3:])
        return None

    def _why_not_got(self, member, ident):
        """Why the member can't deliver the letter of this id, or None."""
        sender, number = ident
        if sender == member:
            return "own"
        if number > self._book.counts().of(sender):
            return "unsent"
        if ident in self._got[member]:
            return "again"
        if not self._counts[member].covers(self._book.letter(ident).causes()):
            return "early"
        return None

    def _why_not_told(self, member, place, ident):
        """Why the member can't tell the letter of this id at this place, or None."""
        told = self._told[member]
        if place != len(told) + 1:
            return "place"
        if ident not in self._got[member]:
            return "not got"
        if ident in told:
            return "again"
        if any([is_told_otherwise(row, place, ident) for row in self._told]):
            return "other"
        if any([cause not in told for cause in self._book.ahead(ident)]):
            return "causes"
        return None

    def _happen(self, row):
        """Go on by a row that can be."""
        member = row[1]
        if row[0] == "sent":
            self._deliver(member, self._send(member, row[2]))
        elif row[0] == "got":
            self._deliver(member, row[2:])
        else:
            self._told[member].append(row[3:])

    def _send(self, member, word):
        """The id of the member's next letter, which it sends."""
        counts = self._counts[member]
        letter = Letter(member, counts.of(member) + 1, word, counts)
        self._book.keep(letter)
        return letter.id_of()

    def _deliver(self, member, ident):
        """The member has the letter of this id from now on."""
        self._got[member].append(ident)
        self._counts[member] = self._counts[member].raised(ident[0])


def course_of(members, rows):
    """The course of a history that can be."""
    check_history(members, rows)
    course = Course(members)
    wrong = course.follow(rows)
    if wrong is not None:
        raise NoRow(wrong)
    return course


def check_history(members, rows):
    """Refuse what is no history of so many members."""
    if not is_history(members, rows):
        raise NoHistory(rows)


def is_row(thing, members):
    """Whether the thing has one of the three forms of a history row."""
    if not isinstance(thing, tuple) or len(thing) < 3 or not is_member(thing[1], members):
        return False
    if thing[0] == "sent":
        return len(thing) == 3 and is_word(thing[2])
    if thing[0] == "got":
        return is_ident(thing[2:], members)
    return thing[0] == "told" and is_whole(thing[2], 1) and is_ident(thing[3:], members)


def is_told_otherwise(row, place, ident):
    """Whether who told this row told another letter at the place, or the letter at another place."""
    if len(row) < place and ident not in row:
        return False
    return row[place - 1:place] != [ident]


def own_rows(rows, member):
    """The rows that name this one as the member."""
    return [row for row in rows if row[1] == member]
