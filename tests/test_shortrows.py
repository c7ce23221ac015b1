"""Short rows, promises [41] and [42]."""

import itertools
import unittest

from causehall.books import Book
from causehall.counts import Counts
from causehall.errors import Lacks, NoCauses, NoCounts, NoLetter, NoMember, NoNumber, NoShort, NotThere, NoWord
from causehall.letters import Letter
from causehall.shortrows import by_changes, changes_of, short_of, whole_of
from tests.support import (HallCase, Maker, book_with, counts_of, is_number, letter_of, no_hall_sizes, no_letters,
                           no_members, odd_but, odd_things)

# (0,1) is known to all; (1,1) and (2,1) are beside each other; (0,2) knows both of them.
ROWS = [(0, (0, 0, 0), "a"), (1, (1, 0, 0), "b"), (2, (1, 0, 0), "c"), (0, (1, 1, 1), "d"), (1, (1, 1, 0), "e")]
LETTERS = [letter_of(sender, row, word) for sender, row, word in ROWS]


def makers():
    """Histories with letters of all numbers of members."""
    return [Maker(2 + seed % 4, 400 + seed).go(30 + 10 * seed) for seed in range(24)]


def ahead_of(maker, letter):
    """The letter of the same sender ahead of this one, or None."""
    there = {one.id_of(): one for one in maker.letters()}
    return there.get((letter.sender(), letter.number() - 1))


class ChangesOf(HallCase):

    def test_first_letters(self):
        self.same(changes_of(letter_of(0, (0, 0, 0))), [])
        self.same(changes_of(letter_of(0, (0, 0, 0)), None), [])
        self.same(changes_of(letter_of(1, (2, 0, 3))), [(0, 2), (2, 3)])
        self.same(changes_of(letter_of(2, (30, 1, 0)), ahead=None), [(0, 30), (1, 1)])

    def test_letters_with_one_ahead(self):
        ahead = letter_of(1, (1, 4, 3, 0))
        for row, wanted in [((1, 5, 3, 0), []), ((2, 5, 3, 0), [(0, 2)]), ((1, 5, 4, 30), [(2, 4), (3, 30)]),
                            ((3, 5, 5, 1), [(0, 3), (2, 5), (3, 1)])]:
            self.same(changes_of(letter_of(1, row), ahead), wanted)
            self.same(changes_of(ahead=ahead, letter=letter_of(1, row)), wanted)

    def test_own_lists(self):
        letter = letter_of(0, (0, 1, 2))
        self.own_list(lambda: changes_of(letter))

    def test_no_letter_ahead_of_all_else(self):
        for thing in [*no_letters(), (0, 1), "0 1 tea 0 0", counts_of(0, 0)]:
            self.refuses(NoLetter, thing, changes_of, thing)
            self.refuses(NoLetter, thing, changes_of, thing, None)
            self.refuses(NoLetter, thing, changes_of, thing, "x")
            self.refuses(NoLetter, thing, changes_of, thing, thing)

    def test_what_is_not_the_letter_ahead(self):
        letter = letter_of(1, (2, 2, 2))
        self.same(changes_of(letter, letter_of(1, (1, 1, 2))), [(0, 2)])
        wrong = [
            *no_letters(), letter, letter_of(1, (2, 0, 2)), letter_of(1, (2, 3, 2)), letter_of(0, (1, 1, 1)),
            letter_of(2, (1, 1, 1)), letter_of(0, (2, 1, 2)), letter_of(1, (2, 1)), letter_of(1, (2, 1, 2, 0)),
            letter_of(1, (3, 1, 2)), letter_of(1, (2, 1, 3)), letter_of(1, (0, 1, 30)), (1, 1), counts_of(2, 1, 2),
        ]
        for thing in wrong:
            self.refuses(NoCauses, thing, changes_of, letter, thing)
            self.refuses(NoCauses, thing, changes_of, ahead=thing, letter=letter)
        self.refuses(NoCauses, None, changes_of, letter)

    def test_nothing_is_ahead_of_a_first_letter(self):
        letter = letter_of(1, (2, 0, 2))
        for thing in [thing for thing in odd_things() if thing is not None]:
            self.refuses(NoCauses, thing, changes_of, letter, thing)
        for thing in [letter, letter_of(1, (0, 0, 0)), letter_of(1, (2, 1, 2)), letter_of(0, (0, 0, 0))]:
            self.refuses(NoCauses, thing, changes_of, letter, thing)


class ByChanges(HallCase):

    def test_plainly(self):
        self.same(str(by_changes(3, 1, 1, "tea", [])), "1 1 tea 0 0 0")
        self.same(str(by_changes(3, 1, 1, "tea", [(2, 30), (0, 1)])), "1 1 tea 1 0 30")
        self.same(str(by_changes(3, 1, 1, "tea", ((0, 1),), None)), "1 1 tea 1 0 0")
        ahead = letter_of(1, (1, 4, 3))
        self.same(str(by_changes(3, 1, 6, "tea", [], ahead)), "1 6 tea 1 5 3")
        self.same(str(by_changes(3, 1, 6, "tea", [(2, 4), (0, 9)], ahead)), "1 6 tea 9 5 4")
        self.same(str(by_changes(ahead=ahead, changes=[(2, 4)], word="tea", number=6, sender=1, members=3)),
                  "1 6 tea 1 5 4")
        self.same(str(ahead), "1 5 tea 1 4 3")

    def test_there_and_back(self):
        for maker in makers():
            for letter in maker.letters():
                ahead = ahead_of(maker, letter)
                if ahead is None:
                    self.same(changes_of(letter), changes_of(letter, None))
                changes = changes_of(letter, ahead)
                before = ahead.causes().told() if ahead else (0,) * maker.members
                row = letter.causes().told()
                self.same(changes, [(k, row[k]) for k in range(maker.members)
                                    if row[k] != before[k] and k != letter.sender()])
                for order in itertools.permutations(changes):
                    got = by_changes(maker.members, *letter.id_of(), letter.word(), list(order), ahead)
                    self.assertIs(type(got), Letter)
                    self.assertEqual(got, letter)

    def test_changes_are_not_changed(self):
        changes = [(2, 1), (0, 3)]
        by_changes(3, 1, 1, "tea", changes)
        self.same(changes, [(2, 1), (0, 3)])

    def test_number_of_members(self):
        for thing in no_hall_sizes():
            self.refuses(NoNumber, thing, by_changes, thing, 0, 1, "tea", [])
            self.refuses(NoNumber, thing, by_changes, thing, "x", "x", 1, 1, 1)

    def test_sender(self):
        for members in range(2, 6):
            for thing in [*no_members(members), members, True, -1]:
                self.refuses(NoMember, thing, by_changes, members, thing, 1, "tea", [])
                self.refuses(NoMember, thing, by_changes, members, thing, 0, "X", None, "x")

    def test_number(self):
        for thing in [*odd_but(lambda thing: is_number(thing, 1, 30)), 0, 31, True]:
            self.refuses(NoNumber, thing, by_changes, 2, 0, thing, "tea", [])
            self.refuses(NoNumber, thing, by_changes, 2, 0, thing, "X", None, "x")

    def test_word(self):
        for thing in [*odd_but(lambda thing: thing in ("a", "tea")), "", "abcdefghi", "Tea"]:
            self.refuses(NoWord, thing, by_changes, 2, 0, 1, thing, [])
            self.refuses(NoWord, thing, by_changes, 2, 0, 2, thing, None, "x")

    def test_changes(self):
        ahead = letter_of(0, (0, 0, 0))
        right = [[], (), [(0, 1)], ((0, 1),), [(1, 1)]]
        wrong = [
            None, 5, "ab", {}, {1: 1}, {(1, 1): 1}, (1, 1), [1, 1], [[1, 1]], [(1, 1), [2, 1]], [(3, 1)], [(-1, 1)],
            [(True, 1)], [(1, True)], [(1, 0)], [(1, -1)], [(1, 31)], [(1, 10 ** 29)], [(1, 1), (1, 2)],
            [(1, 1), (1, 1)], [(0, 1), (0, 1)], [(1,)], [(1, 1, 1)], [()], [None], [(1, None)], [("1", 1)],
            [(1, "1")], [(2, 1), (3, 1)], counts_of(0, 1, 1), [(2, 1), None], [(1, 30), (2, 31)], [(0, 0)],
            [(0, 31)],
            *[thing for thing in odd_things() if thing not in right],
        ]
        for thing in wrong:
            self.refuses(NoCounts, thing, by_changes, 3, 0, 2, "tea", thing, ahead)
            self.refuses(NoCounts, thing, by_changes, 3, 0, 1, "tea", thing)
            # The form of the changes is looked at ahead of the letter ahead.
            self.refuses(NoCounts, thing, by_changes, 3, 0, 2, "tea", thing)
            self.refuses(NoCounts, thing, by_changes, 3, 0, 1, "tea", thing, ahead)

    def test_letter_ahead(self):
        right = letter_of(1, (2, 0, 2))
        self.same(by_changes(3, 1, 2, "tea", [(0, 3)], right).causes().told(), (3, 1, 2))
        wrong = [*no_letters(), letter_of(1, (2, 1, 2)), letter_of(0, (0, 0, 2)), letter_of(2, (2, 0, 0)),
                 letter_of(1, (2, 0)), letter_of(1, (2, 0, 2, 0)), (1, 1), counts_of(2, 0, 2)]
        for thing in wrong:
            self.refuses(NoCauses, thing, by_changes, 3, 1, 2, "tea", [], thing)
            # Changes of the sender are told behind it.
            self.refuses(NoCauses, thing, by_changes, 3, 1, 2, "tea", [(1, 1)], thing)
            if thing is not None:
                self.refuses(NoCauses, thing, by_changes, 3, 1, 1, "tea", [], thing)
                self.refuses(NoCauses, thing, by_changes, 3, 1, 1, "tea", [(1, 1)], thing)
        for thing in [right, letter_of(1, (2, 1, 2))]:
            self.refuses(NoCauses, thing, by_changes, 3, 1, 1, "tea", [], thing)
            self.refuses(NoCauses, thing, by_changes, 3, 1, 30, "tea", [], thing)
        self.refuses(NoCauses, None, by_changes, 3, 1, 2, "tea", [])
        self.refuses(NoCauses, None, by_changes, 3, 1, 2, "tea", [(1, 1)])

    def test_changes_that_have_the_sender_or_are_not_greater(self):
        ahead = letter_of(1, (2, 4, 3))
        for changes in [[(1, 5)], [(1, 6)], [(1, 30)], [(0, 3), (1, 5)], [(0, 2)], [(0, 1)], [(2, 3)], [(2, 1)],
                        [(0, 3), (2, 3)], [(2, 4), (0, 2)], ((0, 2),)]:
            self.refuses(NoCounts, changes, by_changes, 3, 1, 6, "tea", changes, ahead)
        for changes in [[(1, 1)], [(0, 3), (1, 1)], ((1, 30),)]:
            self.refuses(NoCounts, changes, by_changes, 3, 1, 1, "tea", changes)
        for changes in [[(0, 3)], [(2, 4)], [(2, 30), (0, 30)]]:
            got = by_changes(3, 1, 6, "tea", changes, ahead).causes()
            self.same(got.told(), tuple(dict(changes).get(k, old) for k, old in enumerate((2, 5, 3))))


class Short(HallCase):

    def test_plainly(self):
        book = book_with(3, LETTERS)
        for ident, wanted in [((0, 1), (0, 1, "a", ())), ((1, 1), (1, 1, "b", ((0, 1),))),
                              ((2, 1), (2, 1, "c", ((0, 1),))), ((0, 2), (0, 2, "d", ((1, 1), (2, 1)))),
                              ((1, 2), (1, 2, "e", ()))]:
            self.same(short_of(book, ident), wanted)
            self.same(short_of(ident=ident, book=book), wanted)

    def test_own_letter_ahead_is_left_out(self):
        book = book_with(2, [letter_of(0, (0, 0)), letter_of(1, (0, 0)), letter_of(0, (1, 1))])
        self.same(book.direct((0, 2)), [(0, 1), (1, 1)])
        self.same(short_of(book, (0, 2)), (0, 2, "tea", ((1, 1),)))

    def test_not_there(self):
        book = book_with(3, LETTERS)
        for thing in [*odd_but(lambda thing: thing in ((0, 1), (1, 1))), (0, 3), (2, 2), (0, True), (True, 1), [0, 1],
                      (3, 1), (0, 0), LETTERS[0], (0, 1, "a", ())]:
            self.refuses(NotThere, thing, short_of, book, thing)
        ident = (0, 1)
        self.refuses(NotThere, ident, short_of, Book(2), ident)

    def test_against_plain_sets(self):
        for maker in makers():
            book = maker.book()
            for ident in maker.order:
                causes = maker.causes(ident)
                direct = sorted(one for one in causes if not any(one in maker.causes(other) for other in causes))
                ids = tuple(one for one in direct if one[0] != ident[0])
                self.same(short_of(book, ident), (*ident, maker.sent[ident][0], ids))


class Whole(HallCase):

    def test_there_and_back(self):
        for maker in makers():
            full = maker.book()
            letters = {letter.id_of(): letter for letter in maker.letters()}
            growing = Book(maker.members)
            for ident in maker.order:
                short = short_of(full, ident)
                causes = book_with(maker.members, [letters[one] for one in maker.order if one in maker.causes(ident)])
                for book in [causes, growing, full]:
                    before = (book.ids(), book.counts())
                    whole = whole_of(book, short)
                    self.assertIs(type(whole), Letter)
                    self.assertEqual(whole, letters[ident])
                    self.assertEqual(whole_of(short=short, book=book), letters[ident])
                    self.same((book.ids(), book.counts()), before)
                growing.keep(letters[ident])

    def test_of_none(self):
        for members in range(2, 6):
            letter = whole_of(Book(members), (members - 1, 1, "tea", ()))
            self.assertEqual(letter, Letter(members - 1, 1, "tea", Counts([0] * members)))

    def test_of_letters_that_are_not_in_the_book(self):
        book = book_with(3, LETTERS)
        for short, wanted in [((2, 2, "x", ()), "2 2 x 1 0 1"), ((2, 2, "x", ((0, 2),)), "2 2 x 2 1 1"),
                              ((2, 2, "x", ((0, 2), (1, 2))), "2 2 x 2 2 1"), ((2, 2, "x", ((1, 2),)), "2 2 x 1 2 1"),
                              ((0, 3, "x", ((1, 2),)), "0 3 x 2 2 1"), ((1, 3, "x", ()), "1 3 x 1 2 0"),
                              ((1, 3, "x", ((2, 1),)), "1 3 x 1 2 1"), ((1, 3, "x", ((0, 2),)), "1 3 x 2 2 1"),
                              ((0, 2, "y", ()), "0 2 y 1 0 0"), ((0, 2, "y", ((2, 1),)), "0 2 y 1 0 1")]:
            self.same(str(whole_of(book, short)), wanted)

    def test_no_form(self):
        book = book_with(3, LETTERS)
        right = (2, 2, "x", ((0, 1), (1, 1)))
        parts = [no_members(3), odd_but(lambda thing: is_number(thing, 1, 30)),
                 odd_but(lambda thing: thing in ("a", "tea")), odd_but(lambda thing: thing == ())]
        wrong = [list(right), right[:3], (*right, 1), (), "2 2 x", LETTERS[0], {0: right}, (right,), [right],
        right[1:]]
        for place, things in enumerate(parts):
            wrong += [right[:place] + (thing,) + right[place + 1:] for thing in things
                      if not (place == 3 and thing == ((0, 1),))]
        for thing in [*wrong, *odd_things()]:
            self.refuses(NoShort, thing, whole_of, book, thing)
            self.refuses(NoShort, thing, whole_of, Book(3), thing)

    def test_no_form_of_the_ids(self):
        book = book_with(3, LETTERS)
        for ids in [[(0, 1)], ((0, 1), (0, 1)), ((0, 1), (0, 2)), ((1, 1), (0, 1)), ((0, 2), (0, 1)), ((2, 1),),
                    ((0, 1), (2, 1)), ((0, 0),), ((0, 31),), ((0, -1),), ((3, 1),), ((-1, 1),), ((0, True),),
                    ((False, 1),), ((0, 1, 0),), ((0,),), ([0, 1],), (0, 1), ((0, 1), None), "", ((0, "1"),),
                    ((None, 1),), {(0, 1): 1}, ((0, 1), (1, 31)), ((0, 9), (1, 1), (1, 2))]:
            short = (2, 2, "x", ids)
            self.refuses(NoShort, short, whole_of, book, short)
        for number in [0, 31, -1, True, 10 ** 29]:
            short = (2, number, "x", ())
            self.refuses(NoShort, short, whole_of, book, short)

    def test_members_are_those_of_the_book(self):
        for members in range(2, 6):
            book = book_with(members, [letter_of(k, (0,) * members) for k in range(members)])
            for short in [(members, 1, "x", ()), (0, 1, "x", ((members, 1),))]:
                self.refuses(NoShort, short, whole_of, book, short)
            self.same(whole_of(book, (0, 1, "x", ((members - 1, 1),))).causes().of(members - 1), 1)

    def test_lacks(self):
        book = book_with(3, LETTERS)
        for short, lacking in [
                ((2, 3, "x", ()), [(2, 2)]), ((2, 30, "x", ((0, 1),)), [(2, 29)]), ((2, 1, "x", ((0, 3),)), [(0, 3)]),
                ((2, 3, "x", ((0, 3), (1, 3))), [(0, 3), (1, 3), (2, 2)]),
                ((1, 9, "x", ((0, 4), (2, 2))), [(0, 4), (1, 8), (2, 2)]),
                ((0, 9, "x", ((1, 4), (2, 1))), [(0, 8), (1, 4)]),
                ((1, 2, "x", ((0, 30), (2, 30))), [(0, 30), (2, 30)])]:
            self.refuses_of(Lacks, lacking, whole_of, book, short)
        self.refuses_of(Lacks, [(0, 1)], whole_of, Book(3), (0, 2, "x", ()))
        self.refuses_of(Lacks, [(1, 1), (2, 1)], whole_of, Book(3), (0, 1, "x", ((1, 1), (2, 1))))

    def test_lacks_ahead_of_what_is_no_direct_cause(self):
        book = book_with(3, LETTERS)
        self.refuses_of(Lacks, [(2, 2)], whole_of, book, (2, 3, "x", ((0, 1), (1, 1))))
        self.refuses_of(Lacks, [(2, 9)], whole_of, book, (1, 2, "x", ((0, 2), (2, 9))))

    def test_one_ahead_of_another_one(self):
        book = book_with(3, LETTERS)
        for short in [(2, 2, "x", ((0, 1), (1, 1))), (2, 1, "x", ((0, 1), (1, 1))), (2, 1, "x", ((0, 1), (1, 2))),
                      (2, 2, "x", ((0, 2), (1, 1)))]:
            self.refuses(NoShort, short, whole_of, book, short)

    def test_one_ahead_of_the_letter_ahead(self):
        book = book_with(3, LETTERS)
        for short in [(2, 2, "x", ((0, 1),)), (1, 2, "x", ((0, 1),)), (1, 3, "x", ((0, 1),)), (0, 3, "x", ((1, 1),)),
                      (0, 3, "x", ((2, 1),)), (0, 3, "x", ((1, 2), (2, 1)))]:
            self.refuses(NoShort, short, whole_of, book, short)

    def test_one_that_has_the_letter_itself_as_a_cause(self):
        book = book_with(3, LETTERS)
        for short in [(0, 1, "a", ((1, 1),)), (0, 1, "x", ((2, 1),)), (0, 1, "x", ((1, 2),)), (1, 1, "b", ((0, 2),)),
                      (2, 1, "c", ((0, 2),)), (2, 1, "x", ((0, 2), (1, 2)))]:
            self.refuses(NoShort, short, whole_of, book, short)

    def test_sender_number_or_more_in_the_row(self):
        letters = [letter_of(0, (k, 0)) for k in range(4)] + [letter_of(1, (3, 0))]
        book = book_with(2, letters)
        for number in range(1, 4):
            short = (0, number, "x", ((1, 1),))
            self.refuses(NoShort, short, whole_of, book, short)
        self.same(str(whole_of(book, (0, 4, "x", ((1, 1),)))), "0 4 x 3 1")
        self.same(str(whole_of(book, (0, 5, "x", ((1, 1),)))), "0 5 x 4 1")

    def test_letter_ahead_may_be_ahead_of_one_of_them(self):
        book = book_with(2, [letter_of(0, (0, 0)), letter_of(1, (1, 0))])
        letter = whole_of(book, (0, 2, "x", ((1, 1),)))
        self.same(str(letter), "0 2 x 1 1")
        book.keep(letter)
        self.same(short_of(book, (0, 2)), (0, 2, "x", ((1, 1),)))

    def test_all_small_short_letters(self):
        for seed in range(8):
            maker = Maker(3, 700 + seed).go(60, 7)
            book = maker.book()
            idents = [(), *[(one,) for one in maker.order], *itertools.combinations(sorted(maker.order), 2)]
            for sender, number, ids in itertools.product(range(3), range(1, 5), idents):
                self.check(maker, book, (sender, number, "x", ids))

    def check(self, maker, book, short):
        """What is told of this short letter, against plain sets."""
        sender, number, _, ids = short
        named = [*ids, (sender, number - 1)] if number > 1 else list(ids)
        members = [ident[0] for ident in ids]
        if sender in members or len(set(members)) < len(members):
            return self.refuses(NoShort, short, whole_of, book, short)
        lacking = sorted(ident for ident in named if ident not in maker.order)
        if lacking:
            return self.refuses_of(Lacks, lacking, whole_of, book, short)
        if any(one in maker.causes(other) for one in ids for other in named):
            return self.refuses(NoShort, short, whole_of, book, short)
        if any((sender, number) in maker.causes(ident) for ident in ids):
            return self.refuses(NoShort, short, whole_of, book, short)
        causes = set(named).union(*[maker.causes(ident) for ident in named])
        row = Counts([sum(1 for ident in causes if ident[0] == member) for member in range(3)])
        return self.assertEqual(whole_of(book, short), Letter(sender, number, "x", row))


if __name__ == "__main__":
    unittest.main()
