"""Ears, promises [51] to [57]."""

import itertools
import random
import unittest

from causehall.books import Book
from causehall.counts import Counts
from causehall.ears import Ear
from causehall.errors import Forged, Lacks, NoCounts, NoLetter, NoMember, NoNumber, NoShort, NotThere, NoWord, Unlike
from causehall.letters import Letter
from causehall.shortrows import short_of, whole_of
from tests.models import EarModel
from tests.support import (BIG, HallCase, Maker, counts_of, is_number, letter_of, no_counts, no_hall_sizes, no_letters,
                           no_members, odd_but, odd_things)

WORDS = ("a", "tea", "milk", "zzzzzzzz")


def plain(letter):
    """A Letter as the models have it."""
    return (letter.id_of(), letter.word(), letter.causes().told())


def made(ident, word, row):
    """The Letter that the models have so."""
    return Letter(*ident, word, Counts(row))


def shown(ear):
    """All that an Ear tells, its Letters as texts."""
    ids, held = ear.ids(), ear.held()
    return (ear.member(), ear.counts(), len(ear), ids, held, [str(ear.letter(ident)) for ident in ids + held],
            [ear.lacking(ident) for ident in held], ear.wants(), [ear.short(ident) for ident in ids],
            [str(letter) for letter in ear.answers(Counts([0] * len(ear.counts())))])


def ear_with(members, member, letters):
    """An Ear that sends its own letters among these, and takes the others."""
    ear = Ear(members, member)
    for letter in letters:
        if letter.sender() == member:
            ear.send(letter.word())
        else:
            ear.take(letter)
    return ear


# (0,1) is known to (1,1); (2,1) knows both; (0,2) knows (0,1) alone.
LETTERS = [letter_of(0, (0, 0, 0, 0), "a"), letter_of(1, (1, 0, 0, 0), "b"), letter_of(2, (1, 1, 0, 0), "c"),
           letter_of(0, (1, 0, 0, 0), "d")]


class EarCase(HallCase):

    def stands_like(self, ear, model):
        """The Ear tells all that the model has."""
        self.same(ear.member(), model.member)
        self.same(ear.counts().told(), model.counts())
        self.same(ear.ids(), model.order)
        self.same(len(ear), len(model.order))
        self.same(ear.held(), model.held())
        self.same(ear.wants(), model.wants())
        for ident in model.held():
            self.same(ear.lacking(ident), model.lacking(ident))
        for ident in model.letters:
            self.same(plain(ear.letter(ident)), (ident, *model.letters[ident]))


class Making(EarCase):

    def test_at_first_none(self):
        for members in range(2, 6):
            for member in range(members):
                for ear in [Ear(members, member), Ear(member=member, members=members)]:
                    self.stands_like(ear, EarModel(members, member))
                    self.same(ear.answers(Counts([0] * members)), [])

    def test_refused(self):
        for thing in [*no_hall_sizes(), 0, 1, 6, True, "2", None]:
            self.refuses(NoNumber, thing, Ear, thing, 0)
            self.refuses(NoNumber, thing, Ear, thing, "x")
            self.refuses(NoNumber, thing, Ear, member=thing, members=thing)
        for members in range(2, 6):
            for thing in [*no_members(members), members, -1, True, False, "0", BIG]:
                self.refuses(NoMember, thing, Ear, members, thing)
                self.refuses(NoMember, thing, Ear, member=thing, members=members)


class Sending(EarCase):

    def test_row_is_its_counts(self):
        ear = Ear(3, 1)
        first = ear.send("tea")
        self.assertIs(type(first), Letter)
        self.same(str(first), "1 1 tea 0 0 0")
        self.same(str(ear.send(word="milk")), "1 2 milk 0 1 0")
        ear.take(letter_of(0, (0, 0, 0)))
        ear.take(letter_of(2, (1, 1, 0)))
        self.same(str(ear.send("cup")), "1 3 cup 1 2 1")
        self.same(ear.ids(), [(1, 1), (1, 2), (0, 1), (2, 1), (1, 3)])
        self.same(ear.counts().told(), (1, 3, 1))
        self.same(len(ear), 5)
        self.assertIs(ear.letter((1, 1)), first)

    def test_letters_held_back_have_no_part(self):
        ear = Ear(3, 1)
        ear.take(letter_of(0, (2, 0, 0)))
        self.same(ear.held(), [(0, 3)])
        self.same(str(ear.send("tea")), "1 1 tea 0 0 0")
        self.same(ear.held(), [(0, 3)])

    def test_no_word(self):
        ear = ear_with(4, 3, LETTERS[1:])
        before = shown(ear)
        wrong = odd_but(lambda thing: isinstance(thing, str) and thing in ("a", "tea"))
        for thing in [*wrong, "", "Tea", "abcdefghi", "te a", "a\n", 5, None, ["tea"], True]:
            self.refuses(NoWord, thing, ear.send, thing)
            self.refuses(NoWord, thing, ear.send, word=thing)
        self.same(shown(ear), before)
        self.same(str(ear.send("zzzzzzzz")), "3 1 zzzzzzzz 0 0 0 0")

    def test_thirty(self):
        ear = Ear(2, 0)
        for number in range(1, 31):
            self.same(str(ear.send("a")), f"0 {number} a {number - 1} 0")
        self.same(ear.counts().told(), (30, 0))
        self.refuses(NoWord, "Tea", ear.send, "Tea")


class Taking(EarCase):

    def test_in_order(self):
        ear = Ear(4, 3)
        for letter in LETTERS:
            self.same(ear.take(letter), [letter.id_of()])
            self.assertIs(ear.letter(letter.id_of()), letter)
        self.same(ear.ids(), [(0, 1), (1, 1), (2, 1), (0, 2)])

    def test_too_soon(self):
        ear = Ear(4, 3)
        self.same(ear.take(LETTERS[2]), [])
        self.same((ear.held(), ear.wants(), ear.lacking((2, 1))), ([(2, 1)], [(0, 1), (1, 1)], [(0, 1), (1, 1)]))
        self.same(ear.take(letter=LETTERS[1]), [])
        self.same((ear.held(), ear.wants(), ear.lacking((2, 1))), ([(1, 1), (2, 1)], [(0, 1)], [(0, 1), (1, 1)]))
        self.same(ear.take(LETTERS[3]), [])
        self.same(ear.ids(), [])
        self.same(ear.take(LETTERS[0]), [(0, 1), (0, 2), (1, 1), (2, 1)])
        self.same((ear.held(), ear.wants()), ([], []))

    def test_twice(self):
        ear = Ear(4, 3)
        for letter in [LETTERS[2], LETTERS[1]]:
            ear.take(letter)
            before = shown(ear)
            for again in [letter, made(*plain(letter))]:
                self.same(ear.take(again), [])
                self.same(shown(ear), before)
        self.same(ear.take(LETTERS[0]), [(0, 1), (1, 1), (2, 1)])
        for letter in LETTERS[:3]:
            before = shown(ear)
            self.same(ear.take(made(*plain(letter))), [])
            self.same(shown(ear), before)
            self.assertIs(ear.letter(letter.id_of()), letter)

    def test_least_id_first(self):
        # All wait for (1,1); of those that are free the least id goes first, and what that one frees may be less still.
        rows = [(2, (0, 1, 0, 0, 0)), (3, (0, 1, 0, 0, 0)), (0, (0, 1, 1, 1, 0)), (0, (1, 1, 1, 1, 0)),
                (3, (0, 1, 0, 1, 0))]
        for order in itertools.permutations(rows):
            ear = Ear(5, 4)
            for sender, row in order:
                self.same(ear.take(letter_of(sender, row)), [])
            told = ear.take(letter_of(1, (0, 0, 0, 0, 0)))
            self.same(told, [(1, 1), (2, 1), (3, 1), (0, 1), (0, 2), (3, 2)])
            self.same(ear.ids(), told)

    def test_long_chain_backwards(self):
        letters = []
        counts = Counts([0] * 5)
        for k in range(28):
            letters.append(Letter(k % 4, k // 4 + 1, "tea", counts))
            counts = counts.raised(k % 4)
        ear = Ear(5, 4)
        for letter in letters[:0:-1]:
            self.same(ear.take(letter), [])
        self.same(ear.wants(), [(0, 1)])
        self.same(len(ear.held()), 27)
        self.same(ear.take(letters[0]), [letter.id_of() for letter in letters])
        self.same(ear.counts().told(), (7, 7, 7, 7, 0))

    def test_letters_of_its_own_handed_back(self):
        ear = Ear(3, 1)
        own = [ear.send("tea"), ear.send("milk")]
        before = shown(ear)
        for letter in own:
            for again in [letter, made(*plain(letter))]:
                self.same(ear.take(again), [])
        self.same(shown(ear), before)

    def test_answers_to_its_own_letters(self):
        ear = Ear(3, 1)
        ear.send("tea")
        self.same(ear.take(letter_of(0, (0, 1, 0))), [(0, 1)])
        self.same(ear.take(letter_of(2, (1, 1, 0))), [(2, 1)])

    def test_random(self):
        for seed in range(60):
            maker = Maker(2 + seed % 4, 900 + seed).go(120, 4 + seed % 20)
            member = seed % maker.members
            chance = random.Random(seed)
            letters = [letter for letter in maker.letters() if letter.sender() != member]
            own = [letter for letter in maker.letters() if letter.sender() == member]
            ear, model = Ear(maker.members, member), EarModel(maker.members, member)
            # Who sent all its letters at once lets by all that know of them.
            for _ in own:
                self.same(plain(ear.send("own")), model.send("own"))
            for letter in chance.choices(letters, k=60) if letters else []:
                if chance.random() < 0.3:
                    ear.twin().take(letter)
                self.same(ear.take(letter), model.take(*plain(letter)))
                self.stands_like(ear, model)
                ids = ear.ids()
                self.assertTrue(all(maker.causes(one) & set(ids) <= set(ids[:at]) for at, one in enumerate(ids)
                                    if one[0] != member))


class Refused(EarCase):

    def setUp(self):
        self.ear = Ear(3, 1)
        self.ear.send("tea")
        self.ear.take(letter_of(0, (0, 1, 0), "a"))
        self.ear.take(letter_of(2, (3, 1, 1), "held"))
        self.same(self.ear.held(), [(2, 2)])
        self.before = shown(self.ear)

    def tearDown(self):
        self.same(shown(self.ear), self.before)

    def test_no_letter(self):
        for thing in [*no_letters(), (0, 1), (0, 2, "b", ()), "0 1 a 0 1 0", counts_of(0, 1, 0)]:
            self.refuses(NoLetter, thing, self.ear.take, thing)
            self.refuses(NoLetter, thing, self.ear.take, letter=thing)

    def test_unlike(self):
        for row in [(0, 0), (0, 1), (0, 0, 0, 0), (0, 9, 0, 0, 0), (9, 9)]:
            for sender in range(2):
                letter = letter_of(sender, row)
                self.refuses(Unlike, letter, self.ear.take, letter)

    def test_another_with_an_id_that_is_there(self):
        for letter in [letter_of(0, (0, 0, 0), "a"), letter_of(0, (0, 1, 0), "b"), letter_of(0, (0, 1, 1), "a"),
                       letter_of(2, (3, 1, 1), "other"), letter_of(2, (2, 1, 1), "held"),
                       letter_of(1, (0, 0, 0), "milk"), letter_of(1, (1, 0, 0), "tea"), letter_of(1, (0, 0, 1), "tea"),
                       letter_of(0, (0, 2, 0), "a")]:
            self.refuses(Forged, letter, self.ear.take, letter)
            self.refuses(Forged, letter, self.ear.take, letter=letter)

    def test_own_numbers_that_were_not_sent(self):
        for row in [(0, 1, 0), (1, 1, 0), (0, 2, 0), (0, 29, 0), (3, 1, 5)]:
            letter = letter_of(1, row)
            self.refuses(Forged, letter, self.ear.take, letter)

    def test_rows_with_own_letters_that_were_not_sent(self):
        for sender, row in [(0, (1, 2, 0)), (0, (5, 30, 5)), (2, (0, 2, 0)), (2, (0, 3, 7)), (2, (0, 2, 1))]:
            letter = letter_of(sender, row)
            self.refuses(Forged, letter, self.ear.take, letter)
        for sender, row in [(0, (5, 1, 5)), (0, (5, 0, 5)), (2, (0, 1, 7))]:
            self.ear.twin().take(letter_of(sender, row))

    def test_sent_later_it_is_let_by(self):
        ear = self.ear.twin()
        letter = letter_of(0, (1, 2, 0))
        self.refuses(Forged, letter, ear.take, letter)
        ear.send("more")
        self.same(ear.take(letter), [(0, 2)])

    def test_least_members_and_most(self):
        for members in range(2, 6):
            ear = Ear(members, members - 1)
            letter = letter_of(0, (0,) * (members - 1) + (1,))
            self.refuses(Forged, letter, ear.take, letter)
            self.same(ear.take(letter_of(0, (0,) * members)), [(0, 1)])


class Telling(EarCase):

    def setUp(self):
        self.ear = Ear(4, 3)
        self.ear.send("own")
        for letter in [LETTERS[0], letter_of(2, (1, 2, 1, 1)), letter_of(1, (1, 1, 1, 0)), letter_of(0, (4, 0, 0, 0))]:
            self.ear.take(letter)

    def test_plainly(self):
        ear = self.ear
        self.same(ear.ids(), [(3, 1), (0, 1)])
        self.same(ear.held(), [(0, 5), (1, 2), (2, 2)])
        self.same(ear.lacking((2, 2)), [(1, 1), (1, 2), (2, 1)])
        self.same(ear.lacking((1, 2)), [(1, 1), (2, 1)])
        self.same(ear.lacking(ident=(0, 5)), [(0, 2), (0, 3), (0, 4)])
        self.same(ear.wants(), [(0, 2), (0, 3), (0, 4), (1, 1), (2, 1)])
        self.same(str(ear.letter((2, 2))), "2 2 tea 1 2 1 1")
        self.same(str(ear.letter(ident=(3, 1))), "3 1 own 0 0 0 0")
        self.same(len(ear), 2)

    def test_not_there(self):
        before = shown(self.ear)
        delivered, held, neither = [(3, 1), (0, 1)], [(0, 5), (1, 2), (2, 2)], [(0, 2), (1, 1), (2, 1), (3, 2), (2, 3)]
        odd = [*odd_but(lambda thing: thing in [*delivered, *held]), [0, 1], (False, 1), (0, True), (4, 1), (0, 0),
               (0, 1, 0), ((0, 1),), ([0], 1), ({}, 1), "01", None, LETTERS[0], (0, "1"), [0, 5], (1, 2, 0)]
        for thing in [*odd, *neither]:
            for ask in [self.ear.letter, self.ear.lacking, self.ear.short]:
                self.refuses(NotThere, thing, ask, thing)
                self.refuses(NotThere, thing, ask, ident=thing)
        for thing in delivered:
            self.refuses(NotThere, thing, self.ear.lacking, thing)
        for thing in held:
            self.refuses(NotThere, thing, self.ear.short, thing)
        self.same(shown(self.ear), before)

    def test_lists_are_the_askers_own(self):
        before = shown(self.ear)
        for tell in [self.ear.ids, self.ear.held, self.ear.wants, lambda: self.ear.lacking((2, 2)),
                     lambda: self.ear.answers(counts_of(0, 0, 0, 0))]:
            self.own_list(tell)
        self.same(shown(self.ear), before)
        taken = Ear(4, 1)
        taken.take(LETTERS[0]).append("more")
        self.same(taken.ids(), [(0, 1)])

    def test_twins_both_ways_round(self):
        for first, second in [(0, 1), (1, 0)]:
            ear = self.ear.twin()
            both = [ear, ear.twin()]
            self.assertIs(type(both[1]), Ear)
            before = shown(ear)
            self.same(shown(both[1]), before)
            both[first].send("more")
            both[first].take(LETTERS[1])
            both[first].take(letter_of(2, (1, 1, 0, 0)))
            self.same(both[first].held(), [(0, 5)])
            self.same(shown(both[second]), before)
            both[second].take(LETTERS[3])
            self.same(str(both[second].send("other")), "3 2 other 2 0 0 1")
            self.same(both[first].ids(), [(3, 1), (0, 1), (3, 2), (1, 1), (2, 1), (1, 2), (2, 2)])
            self.same(both[second].ids(), [(3, 1), (0, 1), (0, 2), (3, 2)])
            self.same(both[second].held(), [(0, 5), (1, 2), (2, 2)])


class Answers(EarCase):

    def test_of_counts_of_all_kinds(self):
        for seed in range(30):
            maker = Maker(2 + seed % 4, 300 + seed).go(150)
            members, chance = maker.members, random.Random(seed)
            ears = [Ear(members, member) for member in range(members)]
            for row in maker.rows:
                if row[0] == "sent":
                    ears[row[1]].send(row[2])
                elif row[0] == "got":
                    ears[row[1]].take(ears[row[2]].letter(row[2:]))
            asked = [Counts([0] * members), *[ear.counts() for ear in ears], Counts([30] * members)]
            asked += [Counts([chance.randint(0, 9) for _ in range(members)]) for _ in range(10)]
            for member, ear in enumerate(ears):
                self.same(ear.ids(), maker.got[member])
                before = shown(ear)
                self.same(ear.answers(ear.counts()), [])
                self.same(len(ear.answers(Counts([0] * members))), len(ear))
                for counts in asked:
                    wanted = [one for one in maker.got[member] if one[1] > counts.told()[one[0]]]
                    told = ear.answers(counts)
                    self.same([letter.id_of() for letter in told], wanted)
                    self.assertTrue(all(letter is ear.letter(letter.id_of()) for letter in told))
                    self.same([str(letter) for letter in ear.answers(counts=counts)], [str(letter) for letter in told])
                self.same(shown(ear), before)
                for other in ears:
                    taker = other.twin()
                    for letter in ear.answers(taker.counts()):
                        self.same(taker.take(letter), [letter.id_of()])
                    self.assertIs(taker.counts().covers(ear.counts()), True)

    def test_letters_held_back_are_not_told(self):
        ear = Ear(2, 0)
        ear.take(letter_of(1, (0, 1)))
        self.same(ear.answers(counts_of(0, 0)), [])
        ear.take(letter_of(1, (0, 0)))
        self.same([letter.id_of() for letter in ear.answers(counts_of(9, 1))], [(1, 2)])

    def test_refused(self):
        ear = ear_with(4, 3, LETTERS)
        for thing in [*no_counts(), (0, 0, 0, 0), [0, 0, 0, 0], "0 0 0 0", None]:
            self.refuses(NoCounts, thing, ear.answers, thing)
            self.refuses(NoCounts, thing, ear.answers, counts=thing)
        for members in [2, 3, 5]:
            counts = Counts([1] * members)
            self.refuses(Unlike, counts, ear.answers, counts)
        for members in range(2, 6):
            counts = Counts([0] * (7 - members))
            self.refuses(Unlike, counts, Ear(members, 0).answers, counts)


class Kept(EarCase):

    def test_delivers_the_same_and_holds_nothing(self):
        for seed in range(40):
            maker = Maker(2 + seed % 4, 70 + seed).go(90, 16)
            chance, ear = random.Random(seed), Ear(2 + seed % 4, 0)
            others = [letter for letter in maker.letters() if letter.causes().of(0) == 0 and letter.sender() > 0]
            ear.send("own")
            for letter in chance.sample(others, len(others) * 2 // 3):
                ear.take(letter)
            before = shown(ear)
            kept = ear.kept()
            self.assertIs(type(kept), Ear)
            self.same((kept.ids(), kept.counts(), kept.member()), (ear.ids(), ear.counts(), 0))
            self.same((kept.held(), kept.wants(), len(kept)), ([], [], len(ear)))
            for ident in ear.held():
                self.refuses_of(NotThere, ident, kept.letter, ident)
                self.refuses_of(NotThere, ident, kept.lacking, ident)
            self.same(shown(ear), before)
            # What was forgotten is taken again.
            missing = [letter for letter in others if letter.id_of() not in ear.ids()]
            for letter in missing:
                kept.take(letter)
                ear.take(letter)
            self.same(sorted(kept.ids()), sorted(ear.ids()))
            self.same((kept.held(), ear.held()), ([], []))

    def test_sends_the_next_number(self):
        ear = ear_with(4, 0, LETTERS)
        ear.take(letter_of(1, (0, 5, 0, 0)))
        kept = ear.kept()
        self.same(str(kept.send("e")), "0 3 e 2 1 1 0")
        self.same(str(ear.kept().kept().send("f")), "0 3 f 2 1 1 0")

    def test_own_ways(self):
        ear = ear_with(4, 3, LETTERS[:2])
        ear.take(letter_of(1, (1, 2, 0, 0)))
        kept = ear.kept()
        before, of_kept = shown(ear), shown(kept)
        kept.take(LETTERS[2])
        kept.take(letter_of(1, (1, 5, 0, 0)))
        self.same(shown(ear), before)
        again = ear.kept()
        self.same(shown(again), of_kept)
        ear.take(LETTERS[3])
        ear.send("x")
        self.same(shown(again), of_kept)
        # What was told of an id that was forgotten may come otherwise.
        another = letter_of(1, (1, 2, 0, 0), "another")
        self.refuses(Forged, another, ear.take, another)
        self.same(again.take(another), [])


class Shorts(EarCase):

    def test_causes_delivered_and_held_back(self):
        ear = Ear(4, 3)
        self.same(ear.take_short((0, 1, "a", ())), [(0, 1)])
        ear.take(letter_of(1, (1, 1, 0, 0), "x"))
        self.same(ear.held(), [(1, 2)])
        self.same(ear.take_short(short=(2, 1, "c", ((1, 2),))), [])
        self.same(str(ear.letter((2, 1))), "2 1 c 1 2 0 0")
        self.same(ear.lacking((2, 1)), [(1, 1), (1, 2)])
        self.same(ear.take_short((0, 2, "d", ((2, 1),))), [])
        self.same(str(ear.letter((0, 2))), "0 2 d 1 2 1 0")
        self.same(ear.take_short((1, 1, "b", ((0, 1),))), [(1, 1), (1, 2), (2, 1), (0, 2)])
        self.same(ear.short((0, 2)), (0, 2, "d", ((2, 1),)))
        self.same(ear.short(ident=(1, 1)), (1, 1, "b", ((0, 1),)))

    def test_lacks(self):
        ear = Ear(4, 3)
        ear.take_short((0, 1, "a", ()))
        ear.take(letter_of(1, (1, 1, 0, 0), "x"))
        before = shown(ear)
        for short, lacking in [
                ((1, 1, "b", ((2, 1),)), [(2, 1)]), ((0, 3, "b", ()), [(0, 2)]), ((2, 2, "b", ((0, 1),)), [(2, 1)]),
                ((2, 9, "b", ((0, 2), (1, 1))), [(0, 2), (1, 1), (2, 8)]), ((3, 2, "b", ()), [(3, 1)]),
                ((1, 4, "b", ((0, 9), (3, 1))), [(0, 9), (1, 3), (3, 1)]), ((0, 2, "b", ((1, 1),)), [(1, 1)])]:
            self.refuses_of(Lacks, lacking, ear.take_short, short)
            self.refuses_of(Lacks, lacking, ear.take_short, short=short)
        self.same(shown(ear), before)

    def test_no_form(self):
        ear = ear_with(4, 3, LETTERS)
        before = shown(ear)
        right = (2, 2, "x", ((0, 2), (1, 1)))
        parts = [no_members(4), odd_but(lambda thing: is_number(thing, 1, 30)),
                 odd_but(lambda thing: thing in ("a", "tea")), odd_but(lambda thing: thing in ((), ((0, 1),)))]
        wrong = [right[:place] + (thing,) + right[place + 1:] for place, things in enumerate(parts) for thing in things]
        wrong += [list(right), right[:3], (*right, 1), (), LETTERS[0], [right], None, (2, 2, "x", [(0, 2)]),
                  (2, 2, "x", ((0, 1), (0, 2))), (2, 2, "x", ((1, 1), (0, 2))), (2, 2, "x", ((2, 1),)),
                  (4, 1, "x", ()), (2, 2, "x", ((4, 1),)), (2, 31, "x", ()), (2, 2, "x", ((0, 31),)), (2, 0, "x", ()),
                  (2, 2, "X", ()), (2, 2, "x", ((0, True),)), (True, 2, "x", ()), (2, True, "x", ())]
        for thing in [*wrong, *odd_things()]:
            self.refuses(NoShort, thing, ear.take_short, thing)
            self.refuses(NoShort, thing, Ear(4, 3).take_short, thing)
        self.same(shown(ear), before)

    def test_no_direct_causes(self):
        ear = ear_with(4, 3, LETTERS)
        before = shown(ear)
        for short in [(3, 1, "x", ((0, 1), (1, 1))), (3, 1, "x", ((1, 1), (2, 1))), (2, 2, "x", ((0, 1),)),
                      (0, 1, "a", ((1, 1),)), (1, 1, "b", ((2, 1),)), (1, 2, "x", ((0, 1),))]:
            # Though it would be forged, too, as 3 has sent nothing.
            self.refuses(NoShort, short, ear.take_short, short)
        self.same(shown(ear), before)

    def test_forged(self):
        ear = ear_with(4, 3, LETTERS)
        ear.take(letter_of(1, (1, 2, 0, 0), "held"))
        before = shown(ear)
        for short in [(0, 1, "x", ()), (0, 2, "x", ()), (0, 2, "d", ((1, 1),)), (1, 1, "b", ()), (2, 1, "c", ((0, 1),)),
                      (2, 1, "c", ()), (3, 1, "x", ()), (3, 1, "x", ((0, 1),)), (3, 1, "x", ((0, 2), (2, 1)))]:
            self.refuses(Forged, short, ear.take_short, short)
            self.refuses(Forged, short, ear.take_short, short=short)
        self.same(shown(ear), before)
        # Of two refusals, Lacks goes ahead: (1,2) is not there, so (1,3) stands for nothing.
        self.refuses_of(Lacks, [(1, 2)], ear.take_short, (1, 3, "other", ()))
        ear.take_short((1, 2, "y", ()))
        before = shown(ear)
        other = (1, 3, "other", ())
        self.refuses(Forged, other, ear.take_short, other)
        self.same(shown(ear), before)

    def test_forged_by_a_held_letter(self):
        ear = Ear(3, 0)
        ear.take(letter_of(1, (0, 1, 1), "x"))
        self.same(ear.held(), [(1, 2)])
        self.same(ear.take_short((1, 1, "w", ())), [(1, 1)])
        for short in [(1, 2, "x", ()), (1, 2, "y", ())]:
            self.refuses(Forged, short, ear.take_short, short)
        self.refuses_of(Lacks, [(2, 1)], ear.take_short, (1, 2, "x", ((2, 1),)))
        self.same(ear.take_short((2, 1, "v", ())), [(2, 1), (1, 2)])
        self.same(ear.take_short((1, 2, "x", ((2, 1),))), [])

    def test_row_with_own_letters_not_sent_cannot_come_short(self):
        ear = Ear(3, 0)
        self.refuses_of(Lacks, [(0, 1)], ear.take_short, (1, 1, "x", ((0, 1),)))
        own = ear.send("tea")
        self.same(ear.take_short((1, 1, "x", ((0, 1),))), [(1, 1)])
        self.same(ear.take_short((0, 1, "tea", ())), [])
        self.assertIs(ear.letter((0, 1)), own)

    def test_once_whole_and_once_short(self):
        for seed in range(40):
            maker = Maker(2 + seed % 4, 500 + seed).go(130, 6 + seed % 14)
            book, chance = maker.book(), random.Random(seed)
            member = maker.members - 1
            letters = [letter for letter in maker.letters() if letter.causes().of(member) == 0]
            letters = [letter for letter in letters if letter.sender() != member]
            whole, mixed, model = (kind(maker.members, member) for kind in (Ear, Ear, EarModel))
            for letter in chance.choices(letters, k=50) if letters else []:
                short = short_of(book, letter.id_of())
                lacking = model.lacks_for(short)
                if lacking:
                    before = shown(mixed)
                    self.refuses_of(Lacks, lacking, mixed.take_short, short)
                    self.same(shown(mixed), before)
                    if chance.random() < 0.5:
                        continue
                    told = mixed.take(letter)
                else:
                    told = mixed.take_short(short)
                self.same(told, model.take(*plain(letter)))
                self.same(whole.take(letter), told)
                self.stands_like(mixed, model)
                self.same(shown(mixed), shown(whole))
                for ident in mixed.ids():
                    self.same(mixed.short(ident), short_of(book, ident))

    def test_all_small_short_letters(self):
        for seed in range(6):
            maker = Maker(3, 40 + seed).go(70, 8)
            ear, model = Ear(3, 0), EarModel(3, 0)
            for letter in maker.letters():
                if letter.sender() == 0:
                    model.send(ear.send(letter.word()).word())
                elif not model.is_forged(*plain(letter)):
                    ear.take(letter)
                    model.take(*plain(letter))
            idents = [(), *[(one,) for one in maker.order], *itertools.combinations(sorted(maker.order), 2)]
            for sender, number, ids in itertools.product(range(3), range(1, 5), idents):
                self.check(ear, model, (sender, number, "x", ids))

    def check(self, ear, model, short):
        """What comes of this short letter, by the model."""
        owners = [one[0] for one in short[3]]
        if short[0] in owners or len(set(owners)) < len(owners):
            return self.refuses(NoShort, short, ear.take_short, short)
        lacking = model.lacks_for(short)
        if lacking:
            return self.refuses_of(Lacks, lacking, ear.take_short, short)
        whole = model.whole(short)
        if whole is None:
            return self.refuses(NoShort, short, ear.take_short, short)
        if model.is_forged(*whole):
            return self.refuses(Forged, short, ear.take_short, short)
        one, other = ear.twin(), model.twin()
        self.same(one.take_short(short), other.take(*whole))
        return self.stands_like(one, other)

    def test_agrees_with_books(self):
        for seed in range(10):
            maker = Maker(4, seed).go(160)
            book, ear = maker.book(), Ear(4, 3)
            letters = [letter for letter in maker.letters() if not letter.counts_with().of(3)]
            small = Book(4)
            for letter in letters:
                short = short_of(book, letter.id_of())
                self.assertEqual(whole_of(small, short), letter)
                self.same(ear.take_short(short), [letter.id_of()])
                small.keep(letter)
                self.assertEqual(ear.letter(letter.id_of()), letter)


if __name__ == "__main__":
    unittest.main()
