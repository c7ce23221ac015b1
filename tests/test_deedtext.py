"""Deeds as texts, promise [111]."""

import itertools
import unittest

from causehall.deedtext import deed_text
from causehall.errors import NoDeed, NoNumber
from tests.pairs import FORMS, has_form, random_pairs
from tests.support import BIG, HallCase, no_hall_sizes, odd_things, spoilt


def all_deeds(members):
    """Deeds of each form, with each member, and words and numbers of each size."""
    parts = {"m": range(members), "o": range(members), "w": ["a", "tea", "zzzzzzzz"], "n": [0, 1, 12, BIG]}
    for word, form in FORMS.items():
        for some in itertools.product(*[parts[sign] for sign in form]):
            if has_form((word, *some), members):
                yield (word, *some)


class Texts(HallCase):

    def test_each_deed(self):
        for members, deed, text in [
            (2, ("send", 0, "tea"), "send 0 tea"), (2, ("come", 12), "come 12"), (2, ("ask", 1, 0), "ask 1 0"),
            (2, ("flow",), "flow"), (3, ("hand", 2, 0), "hand 2 0"), (5, ("send", 4, "abcdefgh"), "send 4 abcdefgh"),
            (2, ("lose", 0), "lose 0"), (4, ("double", 3), "double 3"), (3, ("call", 2), "call 2"),
            (5, ("again", 4), "again 4"), (2, ("stop", 1), "stop 1"), (2, ("up", 0), "up 0"),
            (3, ("come", BIG), "come " + "9" * 30), (2, ("lose", 10 ** 29), "lose 1" + "0" * 29),
        ]:
            self.same(deed_text(members, deed), text)
            self.same(deed_text(deed=deed, members=members), text)

    def test_all_forms(self):
        for members in range(2, 6):
            deeds = list(all_deeds(members))
            texts = [deed_text(members, deed) for deed in deeds]
            for deed, text in zip(deeds, texts):
                self.same(text, " ".join(map(str, deed)))
            self.same(len(set(texts)), len(deeds))

    def test_deeds_that_halls_did(self):
        words = set()
        for hall, _ in random_pairs(60, 0, 60):
            for deed in [*hall.deeds(), *hall.may()]:
                self.same(deed_text(hall.members(), deed), " ".join(map(str, deed)))
                words.add(deed[0])
        self.same(words, set(FORMS))


class Refused(HallCase):

    def test_no_number(self):
        for thing in [*no_hall_sizes(), 0, 1, 6, True, "2", None]:
            self.refuses(NoNumber, thing, deed_text, thing, ("flow",))
            self.refuses(NoNumber, thing, deed_text, deed=("flow",), members=thing)
            self.refuses(NoNumber, thing, deed_text, thing, thing)

    def test_no_number_ahead_of_no_deed(self):
        for thing in odd_things():
            self.refuses_of(NoNumber, 6, deed_text, 6, thing)

    def test_no_deed(self):
        for members in range(2, 6):
            things = [*odd_things(), "flow", ["flow"], ("Flow",), ("flow", 0), ("sent", 0, "tea"), ("got", 0, 1, 1),
                      ("told", 0, 1, 1, 1), ("add", 0, 1), ("tell", 0), ("row", 0, 0, (), 0), ("hall", 2),
                      ("numbers", 3), "send 0 tea", ("send 0 tea",), ("ask", 0, 0), ("hand", 1, 1)]
            for deed in all_deeds(members):
                things += [*spoilt(deed, [[None, True, False, -1, members, "", "0", "tea", "Tea", (), [], "te a"]] *
                                   len(deed)), list(deed), (*deed, None)]
            wrong = [thing for thing in things if not has_form(thing, members)]
            self.assertGreater(len(wrong), 1000)
            for thing in wrong:
                self.refuses(NoDeed, thing, deed_text, members, thing)

    def test_members_of_a_larger_hall(self):
        for members in range(2, 6):
            for word, form in FORMS.items():
                parts = {"m": members, "o": 0, "w": "a", "n": 1}
                deed = (word, *[parts[sign] for sign in form])
                if "m" in form:
                    self.refuses(NoDeed, deed, deed_text, members, deed)
                    if members < 5:
                        self.same(deed_text(members + 1, deed), " ".join(map(str, deed)))
            for word in ("ask", "hand"):
                self.refuses_of(NoDeed, (word, 0, members), deed_text, members, (word, 0, members))


if __name__ == "__main__":
    unittest.main()
