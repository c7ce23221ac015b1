"""Short rows: what changed since the sender's letter ahead, and direct causes alone."""

from causehall.counts import Counts, all_joined
from causehall.errors import Lacks, NoCauses, NoCounts, NoLetter, NoShort
from causehall.forms import MOST_LETTERS, are_changes, check_member, check_members, is_ident, is_member
from causehall.letters import Letter, check_number_and_word
from causehall.words import is_whole, is_word


def changes_of(letter, ahead=None):
    """What changed in the row since the sender's letter ahead, without the sender's own."""
    if not isinstance(letter, Letter):
        raise NoLetter(letter)
    row = letter.causes()
    if not is_letter_ahead(ahead, letter.sender(), letter.number(), len(row)):
        raise NoCauses(ahead)
    base = row_ahead(ahead, len(row))
    if not row.covers(base):
        raise NoCauses(ahead)
    return [change for change in row.changes_from(base) if change[0] != letter.sender()]


def by_changes(members, sender, number, word, changes, ahead=None):
    """The whole letter of which this is told."""
    check_members(members)
    check_member(sender, members)
    check_number_and_word(number, word)
    if not are_changes(changes, members, 1, MOST_LETTERS):
        raise NoCounts(changes)
    if not is_letter_ahead(ahead, sender, number, members):
        raise NoCauses(ahead)
    base = row_ahead(ahead, members)
    if any([member == sender or count <= base.of(member) for member, count in changes]):
        raise NoCounts(changes)
    return Letter(sender, number, word, base.changed([*changes, (sender, number - 1)]))


def is_letter_ahead(thing, sender, number, members):
    """Whether the thing is the sender's letter ahead of this number, None ahead of the first."""
    if number == 1:
        return thing is None
    if not isinstance(thing, Letter) or len(thing.causes()) != members:
        return False
    return thing.id_of() == (sender, number - 1)


def row_ahead(ahead, members):
    """The row of the letter ahead, noughts where there is none."""
    if ahead is None:
        return Counts([0] * members)
    return ahead.causes()


def short_of(book, ident):
    """The short letter of this id."""
    return short_by(book.letter(ident), book.direct(ident))


def short_by(letter, direct):
    """The short letter of a letter that has these direct causes."""
    idents = [cause for cause in direct if cause[0] != letter.sender()]
    return (letter.sender(), letter.number(), letter.word(), tuple(idents))


def whole_of(book, short):
    """The whole letter of which the short one tells, by the letters of the Book."""
    return whole_by(len(book.counts()), {ident: book.letter(ident) for ident in book.ids()}, short)


def whole_by(members, letters, short):
    """The whole letter of which the short one tells, by a dict of letters."""
    if not is_short(short, members):
        raise NoShort(short)
    sender, number, word, idents = short
    named = with_own_ahead(sender, number, idents)
    lacking = [ident for ident in named if ident not in letters]
    if lacking:
        raise Lacks(lacking)
    causes = [letters[ident] for ident in named]
    others = [cause for cause in causes if cause.sender() != sender]
    if not are_direct(others, causes) or any([other.causes().of(sender) >= number for other in others]):
        raise NoShort(short)
    return Letter(sender, number, word, all_joined(members, [cause.counts_with() for cause in causes]))


def is_short(thing, members):
    """Whether the thing has the form of a short letter."""
    if not isinstance(thing, tuple) or len(thing) != 4:
        return False
    sender, number, word, idents = thing
    if not is_member(sender, members) or not is_whole(number, 1, MOST_LETTERS) or not is_word(word):
        return False
    return are_short_ids(idents, sender, members)


def are_short_ids(thing, sender, members):
    """Whether the thing is a tuple of ids, rising, one of a member at most and none of the sender."""
    if not isinstance(thing, tuple):
        return False
    if not all([is_ident(ident, members, MOST_LETTERS) for ident in thing]):
        return False
    owners = [ident[0] for ident in thing]
    return sender not in owners and owners == sorted(set(owners))


def with_own_ahead(sender, number, idents):
    """These ids, and the one of the sender's letter ahead where there is one, rising."""
    if number == 1:
        return list(idents)
    return sorted([*idents, (sender, number - 1)])


def are_direct(others, letters):
    """Whether none of the others is ahead of any of the letters."""
    return not any([other.is_ahead_of(letter) for other in others for letter in letters])
