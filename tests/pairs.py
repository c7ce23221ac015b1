"""Halls of every kind at random, each beside its plain model, and the forms of deeds told without the program."""

import random
import re

from causehall import errors
from causehall.halls import Hall
from causehall.numbered import NumberHall
from tests import test_halls, test_numbered
from tests.models import HallModel, NumberModel

KINDS = ("whole", "short", "numbers")
# Of each deed what stands behind its word: m a member, o another one, w a word, n a number.
FORMS = {"send": "mw", "come": "n", "lose": "n", "double": "n", "ask": "mo", "flow": "", "call": "m", "hand": "mo",
         "again": "m", "stop": "m", "up": "m"}
HALL_WORDS = ("send", "come", "lose", "double", "ask", "flow")


def has_form(thing, members, words=tuple(FORMS)):
    """Whether the thing has the form of a deed with one of these words."""
    if type(thing) is not tuple or not thing or type(thing[0]) is not str or thing[0] not in words:
        return False
    form, parts = FORMS[thing[0]], thing[1:]
    if len(form) != len(parts) or ("o" in form and parts[0] == parts[1]):
        return False
    for sign, part in zip(form, parts):
        if sign == "w":
            right = type(part) is str and re.fullmatch("[a-z]{1,8}", part)
        else:
            right = type(part) is int and part >= 0 and (sign == "n" or part < members)
        if not right:
            return False
    return True


def new_pair(kind, members):
    """A new hall of this kind, and its model."""
    if kind == "numbers":
        return NumberHall(members), NumberModel(members)
    return Hall(members, kind == "short"), HallModel(members, kind == "short")


def any_deed(chance, model):
    """A deed of right form, mostly one that may be done."""
    if isinstance(model, NumberModel):
        return test_numbered.any_deed(chance, model)
    return test_halls.any_deed(chance, model)


def do_both(hall, model, deed):
    """The deed is done, or refused, by both."""
    refused = model.refused(deed)
    if refused is None:
        assert hall.do(deed) == model.do(deed), deed
        return True
    try:
        hall.do(deed)
    except getattr(errors, refused[0]):
        return False
    raise AssertionError(deed)


def pair_behind(kind, members, deeds):
    """A hall and its model behind these deeds."""
    hall, model = new_pair(kind, members)
    for deed in deeds:
        do_both(hall, model, deed)
    return hall, model


def random_pair(kind, members, seed, steps):
    """A hall and its model behind so many deeds at random, refused ones among them."""
    chance = random.Random(seed)
    hall, model = new_pair(kind, members)
    for _ in range(steps):
        do_both(hall, model, any_deed(chance, model))
    return hall, model


def random_pairs(many, seed, steps, most_members=5):
    """Pairs of every kind and number of members, behind few deeds and more of them."""
    for at in range(many):
        members = 2 + at // 3 % (most_members - 1)
        yield random_pair(KINDS[at % 3], members, seed + at, at % (steps + 1))


def shown(hall):
    """All that a hall tells."""
    if isinstance(hall, NumberHall):
        return test_numbered.shown(hall)
    return test_halls.shown(hall)


def lose_all(hall):
    """All that is under way is lost."""
    for way in hall.under_way():
        hall.do(("lose", way[0]))
    return hall
