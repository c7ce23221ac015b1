"""The refusals, promise [8] and the interface of errors."""

import unittest

from causehall import errors
from tests.support import HallCase, odd_things

FAMILIES = {"HallError": ValueError, "Missing": KeyError, "Barred": LookupError}
FIELDS = {
    "HallError": {
        "NoNumber": "found", "NoWord": "found", "NoMember": "found", "NoCounts": "found", "Unlike": "found",
        "NoLetter": "found", "NoCauses": "found", "Forged": "found", "NoShort": "found", "NoThing": "found",
        "NoDeed": "found", "NoHistory": "found", "NoRow": "found", "NoText": "at", "TooMany": "many",
    },
    "Missing": {"NotThere": "found", "NotOnRoad": "found"},
    "Barred": {
        "Lacks": "found", "Known": "found", "Stopped": "found", "Awake": "found", "AllTold": "found",
        "NoSeat": "found", "Full": "many", "NotQuiet": "many",
    },
}
ALL = [(family, name, field) for family, fields in FIELDS.items() for name, field in fields.items()]


class Families(HallCase):

    def test_three_families(self):
        for name, above in FAMILIES.items():
            family = getattr(errors, name)
            self.assertEqual(family.__bases__, (above,))
            self.assertEqual(family.__module__, "causehall.errors")
            made = family("some text")
            self.assertIs(type(made), family)
            with self.assertRaises(family):
                raise made

    def test_families_are_not_under_one_another(self):
        for name in FAMILIES:
            for other in FAMILIES:
                if name != other:
                    self.assertFalse(issubclass(getattr(errors, name), getattr(errors, other)))

    def test_all_twenty_five(self):
        self.assertEqual(len(ALL), 25)
        for family, name, _ in ALL:
            refusal = getattr(errors, name)
            self.assertEqual(refusal.__bases__, (getattr(errors, family),), name)
            self.assertEqual(refusal.__module__, "causehall.errors")
            self.assertEqual(refusal.__name__, name)

    def test_none_under_another(self):
        for _, name, _ in ALL:
            for _, other, _ in ALL:
                if name != other:
                    self.assertFalse(issubclass(getattr(errors, name), getattr(errors, other)))
            for family in FAMILIES:
                stands = issubclass(getattr(errors, name), getattr(errors, family))
                self.assertEqual(stands, name in FIELDS[family], (name, family))


class Fields(HallCase):

    def test_made_by_place_and_by_name_with_the_very_thing(self):
        for _, name, field in ALL:
            refusal = getattr(errors, name)
            for thing in odd_things():
                self.assertIs(getattr(refusal(thing), field), thing)
                self.assertIs(getattr(refusal(**{field: thing}), field), thing)

    def test_what_is_changed_in_a_list_is_changed_in_the_field(self):
        for _, name, field in ALL:
            things = [1, [2]]
            made = getattr(errors, name)(things)
            things.append(3)
            things[1].append(4)
            self.assertEqual(getattr(made, field), [1, [2, 4], 3])

    def test_raised_and_caught(self):
        for family, name, field in ALL:
            refusal = getattr(errors, name)
            for above in [refusal, getattr(errors, family), FAMILIES[family]]:
                thing = ["a", {}]
                with self.assertRaises(above) as caught:
                    raise refusal(thing)
                self.assertIs(getattr(caught.exception, field), thing)

    def test_can_be_told_as_a_text(self):
        for _, name, _ in ALL:
            for thing in odd_things():
                self.assertIsInstance(str(getattr(errors, name)(thing)), str)


if __name__ == "__main__":
    unittest.main()
