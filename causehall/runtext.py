"""Runs as texts: what a new hall does, deed by deed, and what happens by it."""

from causehall.deedtext import written
from causehall.errors import Awake, Full, NoDeed, NoRow, NoSeat, NoText, NotOnRoad, Stopped
from causehall.forms import LEAST_MEMBERS, MOST_MEMBERS, check_members, is_list
from causehall.halls import Hall
from causehall.histories import is_row
from causehall.numbered import NumberHall, is_number_deed
from causehall.words import is_whole, number_in

MOST_DEEDS = 200
PLAIN_KIND = "hall"
NUMBER_KIND = "numbers"
AHEAD = "  "


def run_text(members, deeds, numbers=False):
    """The run of a new hall that does these deeds, as a text."""
    check_members(members)
    if not is_list(deeds) or len(deeds) > MOST_DEEDS:
        raise NoRow(deeds)
    kind = NUMBER_KIND if numbers else PLAIN_KIND
    hall = new_hall(kind, members)
    rows = [written((kind, members))]
    for place, deed in enumerate(deeds):
        happened = happened_by(hall, deed)
        if happened is None:
            raise NoRow((place, deed))
        rows.append(written(deed))
        rows.extend([AHEAD + written(row) for row in happened])
    return "\n".join(rows)


def read_run(text):
    """The kind of hall, how many members it has, and each deed with the history rows behind it."""
    kind, members, deeds = numbered_run(text)
    return (kind, members, [(deed, [row for _, row in behind]) for _, deed, behind in deeds])


def first_false(text):
    """The number of the first row that can't be, and why, or None."""
    kind, members, deeds = numbered_run(text)
    hall = new_hall(kind, members)
    for at, deed, behind in deeds:
        happened = happened_by(hall, deed)
        if happened is None:
            return (at, "refused")
        unlike = first_unlike(at, behind, happened)
        if unlike is not None:
            return (unlike, "not so")
    return None


def new_hall(kind, members):
    """A new hall of this kind."""
    if kind == NUMBER_KIND:
        return NumberHall(members)
    return Hall(members)


def happened_by(hall, deed):
    """The history rows that happen by the deed, or None where the hall refuses it."""
    try:
        return hall.do(deed)
    except (NoDeed, Full, NotOnRoad, Stopped, Awake, NoSeat):
        return None


def first_unlike(at, behind, happened):
    """The number of the first row behind a deed, with the number at, that is not what happened; or None.

    Where rows lack it is the deed's own.
    """
    for place, (number, row) in enumerate(behind):
        if happened[place:place + 1] != [row]:
            return number
    if len(behind) < len(happened):
        return at
    return None


def numbered_run(text):
    """A run as read_run tells it, with the number of its row ahead of each deed and history row."""
    rows = telling_rows(text)
    at, row = rows[0]
    kind, members = first_row(at, row)
    deeds = []
    for at, row in rows[1:]:
        parts = parts_in(row)
        if is_deed_row(row) and is_number_deed(parts, members):
            deeds.append((at, parts, []))
        elif row.startswith(AHEAD) and is_row(parts, members) and len(deeds) > 0:
            deeds[-1][2].append((at, parts))
        else:
            raise NoText(at)
    return (kind, members, deeds)


def telling_rows(text):
    """The rows that tell anything, one at least, each with its number ahead and no blanks at its end."""
    if not isinstance(text, str):
        raise NoText(0)
    rows = [(at, row.rstrip(" ")) for at, row in enumerate(text.split("\n"))]
    telling = [(at, row) for at, row in rows if row != ""]
    if len(telling) == 0:
        raise NoText(0)
    return telling


def first_row(at, row):
    """The kind of hall and how many members it has, by the first row that tells anything."""
    parts = parts_in(row)
    if not is_deed_row(row) or len(parts) != 2 or parts[0] not in (PLAIN_KIND, NUMBER_KIND):
        raise NoText(at)
    if not is_whole(parts[1], LEAST_MEMBERS, MOST_MEMBERS):
        raise NoText(at)
    return parts


def is_deed_row(row):
    """Whether no blank stands ahead."""
    return not row.startswith(" ")


def parts_in(row):
    """The words of a row, a tuple, those behind the first one as numbers where they write such."""
    words = [word for word in row.split(" ") if word != ""]
    return tuple([words[0], *[part_in(word) for word in words[1:]]])


def part_in(word):
    """The number that the word plainly writes, else the word."""
    number = number_in(word)
    if number is None:
        return word
    return number
