"""The promise over all halls and all deeds, [9], sentence by sentence, up to the bounds of [6]."""

import random
import unittest

from causehall.confused import confused, shows_confused
from causehall.errors import TooMany
from causehall.halls import Hall
from causehall.histories import first_wrong, longest_told
from causehall.made import deeds_for
from causehall.plain import PlainHall, seen_history, seen_plain, steps_between
from causehall.rest import calming, is_calming, lacks_for_rest, rests
from causehall.runtext import first_false, read_run, run_text
from causehall.shortrows import short_of, whole_of
from causehall.weavepaper import shows_ends
from causehall.weavings import ends_of, ends_paper
from tests.models import causes_of
from tests.pairs import KINDS, any_deed, new_pair
from tests.support import HallCase, book_with

MOST_DEEDS = 200


def runs(many, seed):
    """A kind, a number of members, and a chance for each run."""
    for at in range(many):
        yield KINDS[at % 3], 2 + at // 3 % 4, random.Random(seed + at)


def steps(kind, members, chance, sends=True):
    """A hall behind each of two hundred deeds, refused ones left out, with the deed and what happened."""
    hall, model = new_pair(kind, members)
    while len(model.deeds) < MOST_DEEDS:
        deed = any_deed(chance, model)
        if model.refused(deed) is None and (sends or deed[0] != "send" or len(model.sent) < 6):
            model.do(deed)
            yield hall, deed, hall.do(deed)


def causes_in(book, ident):
    """The ids of all causes of a letter in a Book."""
    return causes_of(book.letter(ident).causes().told())


class Whole(HallCase):

    def test_delivery(self):
        full = held = 0
        for kind, members, chance in runs(60, 0):
            for hall, _, _ in steps(kind, members, chance):
                if chance.random() < 0.2:
                    book = hall.book()
                    for member in range(members):
                        self.delivers(hall, book, member)
                        held += len(hall.held(member))
            full += len(hall.book()) == 30
        self.assertGreater(full, 20)
        self.assertGreater(held, 1000)

    def delivers(self, hall, book, member):
        """None twice, none unsent, each behind its causes; what is held back lacks causes, and these are told."""
        ids, there, lacking = hall.ids(member), set(), set()
        for ident in ids:
            self.assertNotIn(ident, there)
            self.assertLessEqual(causes_in(book, ident), there)
            there.add(ident)
        for ident in hall.held(member):
            self.assertNotIn(ident, there)
            self.assertFalse(causes_in(book, ident) <= there)
            lacking |= causes_in(book, ident) - there
        self.same(hall.wants(member), sorted(lacking - set(hall.held(member))))

    def test_short_rows(self):
        left_out = 0
        for kind, members, chance in runs(24, 100):
            *_, (hall, _, _) = steps(kind, members, chance)
            book = hall.book()
            for ident in book.ids():
                short, letter = short_of(book, ident), book.letter(ident)
                just_causes = book_with(members, [book.letter(one) for one in book.ids() if one in book.ahead(ident)])
                self.assertEqual(whole_of(book, short), letter)
                self.assertEqual(whole_of(just_causes, short), letter)
                for cause in short[3]:
                    shown = confused(book, ident, cause)
                    self.assertIs(shows_confused(book, ident, cause, shown), True)
                    self.same([first_wrong(members, run) for run in shown], [None, None])
                    left_out += 1
        self.assertGreater(left_out, 200)

    def test_one_row(self):
        told = 0
        for _, members, chance in runs(48, 200):
            row, holders = [], {}
            for hall, _, _ in steps("numbers", members, chance):
                rows = [hall.told(member) for member in range(members)]
                longest = max(rows, key=len)
                # What anybody told stays at its place for ever, for all.
                self.same(longest[:len(row)], row)
                self.same([longest[:len(one)] for one in rows], rows)
                row = longest
                for term, hop, member in hall.seats():
                    self.same(holders.setdefault((term, hop), member), member)
                self.same(len(set(hall.seats())), len({seat[:2] for seat in hall.seats()}))
            self.same(len(set(row)), len(row))
            for place, ident in enumerate(row):
                self.assertLessEqual(causes_in(hall.book(), ident), set(row[:place]))
            self.same(longest_told(members, hall.history()), row)
            told += len(row)
        self.assertGreater(told, 300)

    def test_up_again(self):
        ups = 0
        for _, members, chance in runs(36, 300):
            stopped = {}
            for hall, deed, _ in steps("numbers", members, chance):
                has = [(hall.told(member), hall.ids(member)) for member in range(members)]
                if deed[0] == "stop":
                    stopped[deed[1]] = has[deed[1]]
                    self.same(hall.held(deed[1]), [])
                for member in stopped:
                    self.same(has[member], stopped[member])
                if deed[0] == "up":
                    self.same(has[deed[1]], stopped.pop(deed[1]))
                    ups += 1
        self.assertGreater(ups, 150)

    def test_rest(self):
        for kind, members, chance in runs(48, 400):
            for hall, _, _ in steps(kind, members, chance):
                if chance.random() < 0.03:
                    twin, deeds = hall.twin(), calming(hall)
                    self.assertIs(is_calming(hall, deeds), True)
                    for deed in deeds:
                        twin.do(deed)
                    self.same((rests(twin), lacks_for_rest(twin)), (True, []))
                    sent = sorted(twin.book().ids())
                    rows = [twin.ids(member) for member in range(members)]
                    self.same([sorted(row) for row in rows], [sent] * members)
                    if kind == "numbers":
                        self.same([twin.told(member) for member in range(members)], [twin.told(0)] * members)
                        self.same(sorted(twin.told(0)), sent)

    def test_what_happened(self):
        for kind, members, chance in runs(48, 500):
            *_, (hall, _, _) = steps(kind, members, chance)
            rows = hall.history()
            self.assertIs(first_wrong(members, rows), None)
            # The same row once more can't be, but a sending.
            for at in range(0, len(rows), 7):
                if rows[at][0] != "sent":
                    word = {"got": "again", "told": "place"}[rows[at][0]]
                    self.same(first_wrong(members, rows[:at + 1] + rows[at:]), (at + 1, word))
            moved = [row for row in rows if row[0] != "told"]
            again = Hall(members)
            for deed in deeds_for(members, moved):
                again.do(deed)
            self.same(again.history(), moved)
            if kind != "short":
                text = run_text(members, hall.deeds(), kind == "numbers")
                self.assertIs(first_false(text), None)
                self.same([row for _, happened in read_run(text)[2] for row in happened], rows)

    def test_small_halls(self):
        shown = 0
        for kind, members, chance in runs(24, 600):
            for hall, _, _ in steps(kind, members, chance, False):
                if len(hall.under_way()) > 4 or chance.random() < 0.8:
                    continue
                for lossy in (False, True):
                    try:
                        ends, paper = ends_of(hall, lossy), ends_paper(hall, lossy)
                    except TooMany:
                        continue
                    self.assertIs(shows_ends(hall, ends, paper, lossy), True)
                    self.some_weaving(hall, lossy, chance, [end for end, _ in ends], paper)
                    shown += 1
        self.assertGreater(shown, 300)

    def some_weaving(self, hall, lossy, chance, ends, paper):
        """A weaving at random meets what the paper has, and comes to one of the ends."""
        twin, many = hall.twin(), 0
        while twin.under_way():
            self.assertLessEqual(paper[twin.state()], many)
            number = chance.choice(twin.under_way())[0]
            twin.do((chance.choice(["come", "lose"] if lossy else ["come"]), number))
            many += 1
        self.assertLessEqual(paper[twin.state()], many)
        members = range(twin.members())
        self.assertIn([(tuple(twin.ids(member)), tuple(twin.held(member))) for member in members],
                      [[row[:2] for row in end] for end in ends])

    def test_seen_plain(self):
        told = 0
        for _, members, chance in runs(36, 700):
            seen = PlainHall(members)
            for hall, _, happened in steps("numbers", members, chance):
                behind = seen_plain(hall)
                deeds = steps_between(seen, behind)
                self.same([deed[1] for deed in deeds if deed[0] == "tell"],
                          sorted(row[1] for row in happened if row[0] == "told"))
                told, seen = told + len(deeds), behind
            self.assertEqual(seen_history(members, hall.history())[-1], seen)
        self.assertGreater(told, 400)


if __name__ == "__main__":
    unittest.main()
