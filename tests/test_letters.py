"""Letters, promise [21]."""

import itertools
import unittest

from causehall.counts import Counts
from causehall.errors import NoCauses, NoCounts, NoLetter, NoMember, NoNumber, NoWord, Unlike
from causehall.letters import Letter
from tests.support import HallCase, Maker, counts_of, is_number, letter_of, no_counts, no_letters, no_members, odd_but

NO_NUMBERS = odd_but(lambda thing: is_number(thing, 1, 30))
NO_WORDS = odd_but(lambda thing: thing in ("a", "tea"))


class Making(HallCase):

    def test_tells_all_four(self):
        for sender, number, word, row in [(0, 1, "a", (0, 0)), (1, 2, "tea", (0, 1, 3)),
                                          (4, 30, "abcdefgh", (30, 1, 2, 3, 29)), (0, 30, "z", (29, 30)),
                                          (3, 1, "zz", (30, 30, 30, 0))]:
            causes = Counts(row)
            letter = Letter(sender, number, word, causes)
            self.same(letter.sender(), sender)
            self.same(letter.number(), number)
            self.same(letter.word(), word)
            self.assertIs(letter.causes(), causes)
            self.same(letter.causes().told(), row)
            self.same(letter.id_of(), (sender, number))
            wanted = list(row)
            wanted[sender] = number
            self.same(letter.counts_with(), Counts(wanted))
            self.same(letter.causes().told(), row)

    def test_by_names(self):
        letter = Letter(causes=counts_of(0, 1, 3), word="tea", number=2, sender=1)
        self.same(str(letter), "1 2 tea 0 1 3")

    def test_text(self):
        self.same(str(Letter(1, 2, "tea", counts_of(0, 1, 3))), "1 2 tea 0 1 3")
        self.same(str(Letter(0, 1, "q", counts_of(0, 30))), "0 1 q 0 30")
        self.same(str(Letter(4, 30, "abcdefgh", counts_of(1, 2, 3, 4, 29))), "4 30 abcdefgh 1 2 3 4 29")


class Refusals(HallCase):

    def test_sender(self):
        for thing in [*no_members(5), 5, -1, True, False]:
            self.refuses(NoMember, thing, Letter, thing, 1, "tea", counts_of(0, 0))
            self.refuses(NoMember, thing, Letter, thing, 0, "Tea", None)

    def test_number(self):
        for thing in [*NO_NUMBERS, 0, 31, -1, True]:
            self.refuses(NoNumber, thing, Letter, 0, thing, "tea", counts_of(0, 0))
            self.refuses(NoNumber, thing, Letter, 4, thing, "", None)

    def test_word(self):
        for thing in [*NO_WORDS, "", "abcdefghi", "Tea", "te a", "1"]:
            self.refuses(NoWord, thing, Letter, 0, 1, thing, counts_of(0, 0))
            self.refuses(NoWord, thing, Letter, 4, 2, thing, None)

    def test_row_that_is_no_counts(self):
        for thing in [*no_counts(), (0, 0), [0, 0], "0 0"]:
            self.refuses(NoCounts, thing, Letter, 0, 1, "tea", thing)
            self.refuses(NoCounts, thing, Letter, 4, 30, "tea", thing)

    def test_sender_that_is_a_member_but_none_of_so_many(self):
        for members in range(2, 6):
            for sender in range(5):
                for row in [(0,) * members, (31,) * members]:
                    causes = Counts(row)
                    if sender >= members:
                        self.refuses(NoMember, sender, Letter, sender, 1, "tea", causes)
                        self.refuses(NoMember, sender, Letter, sender, 9, "tea", causes)
                    elif row[0] == 0:
                        self.same(Letter(sender, 1, "tea", causes).sender(), sender)
                    else:
                        self.refuses(NoCauses, causes, Letter, sender, 1, "tea", causes)

    def test_own_count(self):
        for number in range(1, 31):
            for own in range(0, 32):
                for sender in range(3):
                    row = [0, 0, 0]
                    row[sender] = own
                    causes = Counts(row)
                    if own == number - 1:
                        self.same(Letter(sender, number, "tea", causes).number(), number)
                    else:
                        self.refuses(NoCauses, causes, Letter, sender, number, "tea", causes)

    def test_counts_of_thirty_and_thirty_one(self):
        for members in range(2, 6):
            for sender in range(members):
                for other in range(members):
                    if other == sender:
                        continue
                    for count in [30, 31, 32, 10 ** 29]:
                        row = [0] * members
                        row[other] = count
                        causes = Counts(row)
                        if count == 30:
                            self.same(Letter(sender, 1, "tea", causes).causes().of(other), 30)
                        else:
                            self.refuses(NoCauses, causes, Letter, sender, 1, "tea", causes)

    def test_two_at_once(self):
        causes = counts_of(5, 31)
        wrong = [(NoMember, "x"), (NoNumber, 0), (NoWord, "X"), (NoCounts, (0, 0))]
        for first in range(4):
            parts = [0, 1, "tea", causes]
            for place in range(first, 4):
                parts[place] = wrong[place][1]
            self.refuses(wrong[first][0], wrong[first][1], Letter, *parts)
        self.refuses(NoMember, "x", Letter, "x", 1, "tea", causes)
        self.refuses(NoNumber, 31, Letter, 0, 31, "tea", causes)
        self.refuses(NoNumber, 31, Letter, 4, 31, "tea", counts_of(0, 0))
        self.refuses(NoWord, "", Letter, 0, 1, "", causes)
        self.refuses(NoWord, "", Letter, 4, 1, "", counts_of(0, 0))
        self.refuses(NoCounts, None, Letter, 4, 1, "tea", None)
        self.refuses(NoMember, 2, Letter, 2, 1, "tea", causes)
        self.refuses(NoCauses, causes, Letter, 0, 1, "tea", causes)


class Standing(HallCase):

    def test_is_ahead_of(self):
        first = letter_of(0, (0, 0, 0))
        second = letter_of(0, (1, 0, 0))
        knows_first = letter_of(1, (1, 0, 0))
        knows_both = letter_of(2, (2, 0, 0))
        for one, other, wanted in [(first, second, True), (second, first, False), (first, knows_first, True),
                                   (knows_first, first, False), (second, knows_first, False),
                                   (knows_first, second, False), (first, knows_both, True),
                                   (second, knows_both, True), (knows_first, knows_both, False),
                                   (knows_both, knows_first, False)]:
            self.assertIs(one.is_ahead_of(other), wanted)
            self.assertIs(one.is_ahead_of(other=other), wanted)

    def test_of_itself(self):
        for row in [(0, 0, 0), (3, 0, 0), (3, 30, 30)]:
            letter = letter_of(0, row)
            self.assertIs(letter.is_ahead_of(letter), False)
            self.assertIs(letter.is_ahead_of(letter_of(0, row)), False)

    def test_all_of_a_history(self):
        for seed in range(20):
            maker = Maker(2 + seed % 4, seed).go(80)
            for one, other in itertools.product(maker.letters(), repeat=2):
                self.assertIs(one.is_ahead_of(other), one.id_of() in maker.causes(other.id_of()))

    def test_no_letter(self):
        letter = letter_of(0, (0, 0))
        for thing in [*no_letters(), (0, 1), "0 1 tea 0 0", counts_of(0, 0)]:
            self.refuses(NoLetter, thing, letter.is_ahead_of, thing)

    def test_of_another_number_of_members(self):
        for members in range(2, 6):
            for others in range(2, 6):
                if members != others:
                    other = letter_of(0, (0,) * others)
                    self.refuses(Unlike, other, letter_of(1, (0,) * members).is_ahead_of, other)


class Equality(HallCase):

    def test_equal_to_those_of_equal_parts(self):
        self.assertIs(letter_of(1, (0, 1, 3)) == letter_of(1, (0, 1, 3)), True)
        self.assertIs(letter_of(1, (0, 1, 3)) != letter_of(1, (0, 1, 3)), False)

    def test_each_part_put_otherwise(self):
        letter = Letter(1, 2, "tea", counts_of(1, 1, 3))
        for other in [Letter(0, 2, "tea", counts_of(1, 1, 3)), Letter(1, 3, "tea", counts_of(1, 2, 3)),
                      Letter(1, 2, "teas", counts_of(1, 1, 3)), Letter(1, 2, "tea", counts_of(1, 1, 2)),
                      Letter(1, 2, "tea", counts_of(1, 1)), Letter(1, 2, "tea", counts_of(1, 1, 3, 0))]:
            self.assertIs(letter == other, False)
            self.assertIs(other == letter, False)
            self.assertIs(letter != other, True)

    def test_no_other_thing(self):
        letter = Letter(1, 2, "tea", counts_of(0, 1, 3))
        parts = (1, 2, "tea", counts_of(0, 1, 3))
        for thing in [*no_letters(), str(letter), (1, 2), counts_of(0, 1, 3), parts, list(parts)]:
            self.assertIs(letter == thing, False)
            self.assertIs(thing == letter, False)
            self.assertIs(letter != thing, True)


if __name__ == "__main__":
    unittest.main()
