"""Confused runs: two histories that a short row with one id less can't tell apart."""

from causehall.books import ids_beyond
from causehall.counts import Counts, all_joined
from causehall.errors import NotThere
from causehall.forms import is_ident
from causehall.histories import Course, is_history
from causehall.shortrows import short_of, with_own_ahead


def confused(book, ident, cause):
    """Two runs to the letter's sending: the cause is one in the first, and none in the second."""
    less = short_without(book, ident, cause)
    letter = book.letter(ident)
    named = with_own_ahead(letter.sender(), letter.number(), less[3])
    row = all_joined(len(book.counts()), [book.letter(one).counts_with() for one in named])
    return (run_to(book, letter, letter.causes()), run_to(book, letter, row))


def shows_confused(book, ident, cause, thing):
    """Whether the thing is a tuple of two such runs."""
    less = short_without(book, ident, cause)
    if not isinstance(thing, tuple) or len(thing) != 2:
        return False
    first = sent_to(book, ident, thing[0])
    second = sent_to(book, ident, thing[1])
    if first is None or second is None:
        return False
    return first.letter(ident) == book.letter(ident) and short_of(second, ident) == less


def short_without(book, ident, cause):
    """The short letter of the id, without the one id in its row."""
    sender, number, word, idents = short_of(book, ident)
    if not is_ident(cause, len(book.counts())) or cause not in idents:
        raise NotThere(cause)
    return (sender, number, word, tuple([one for one in idents if one != cause]))


def run_to(book, letter, row):
    """A history in which just the letters that the row has are sent, and behind them the letter with this row."""
    members = len(row)
    needed = [ident for ident in book.ids() if ident[1] <= row.of(ident[0])]
    counts = [Counts([0] * members) for _ in range(members)]
    rows = []
    for ident in needed:
        cause = book.letter(ident)
        rows.extend(rows_to_send(needed, cause, counts[ident[0]], cause.causes()))
        counts[ident[0]] = cause.counts_with()
    rows.extend(rows_to_send(needed, letter, counts[letter.sender()], row))
    return rows


def rows_to_send(order, letter, counts, row):
    """The letter's sender, behind these counts, delivers all that the row has, in this order, and sends its word."""
    wanted = ids_beyond(counts, row)
    delivered = [("got", letter.sender(), *ident) for ident in order if ident in wanted]
    return [*delivered, ("sent", letter.sender(), letter.word())]


def sent_to(book, ident, run):
    """The Book of a run that can be, ends with the sending of this id and its word, and has else letters of the book.

    None where the thing is no such run.
    """
    members = len(book.counts())
    letter = book.letter(ident)
    if not is_history(members, run) or len(run) == 0 or any([row[0] == "told" for row in run]):
        return None
    course = Course(members)
    if course.follow(run) is not None or run[-1] != ("sent", letter.sender(), letter.word()):
        return None
    sent = course.book()
    others = sent.ids()
    if others.pop() != ident:
        return None
    there = book.ids()
    if not all([other in there and sent.letter(other) == book.letter(other) for other in others]):
        return None
    return sent
