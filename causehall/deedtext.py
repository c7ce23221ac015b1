"""Deeds as texts."""

from causehall.errors import NoDeed
from causehall.forms import check_members
from causehall.numbered import is_number_deed


def deed_text(members, deed):
    """The deed of a hall of so many members as a text."""
    check_members(members)
    if not is_number_deed(deed, members):
        raise NoDeed(deed)
    return written(deed)


def written(row):
    """The words and numbers of a deed, or of a history row, with a blank between any two."""
    return " ".join([str(part) for part in row])
