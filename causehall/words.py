"""Whole numbers and words, and the plain writing of numbers."""

MOST_SIGNS = 8
MOST_FIGURES = 30


def is_whole(thing, low, high=None):
    """Whether the thing is a whole number from low to high, or from low on."""
    if not isinstance(thing, int) or isinstance(thing, bool):
        return False
    return low <= thing and (high is None or thing <= high)


def is_word(thing):
    """Whether the thing is a text of one to eight small letters."""
    return is_text_of(thing, "a", "z", MOST_SIGNS)


def number_in(thing):
    """The whole number that the thing plainly writes, or None."""
    if not is_text_of(thing, "0", "9", MOST_FIGURES):
        return None
    if thing[0] == "0" and len(thing) > 1:
        return None
    return int(thing)


def is_text_of(thing, first, last, most):
    """Whether the thing is a text of one sign or more, all of them from first to last."""
    if not isinstance(thing, str) or not 1 <= len(thing) <= most:
        return False
    return all([first <= sign <= last for sign in thing])
