"""Whole numbers, words and the plain writing of numbers, promise [11]."""

import unittest

from causehall.words import is_whole, is_word, number_in
from tests.support import BIG, HallCase, odd_but, odd_things


class IsWhole(HallCase):

    def test_both_bounds_are_counted(self):
        for low in range(-3, 4):
            for high in range(-3, 4):
                for number in range(-5, 6):
                    self.assertIs(is_whole(number, low, high), number in range(low, high + 1))

    def test_without_high(self):
        for low in range(-3, 4):
            for number in range(-5, 6):
                self.assertIs(is_whole(number, low), number >= low)
                self.assertIs(is_whole(number, low, None), number >= low)
        self.assertIs(is_whole(0, 0), True)
        self.assertIs(is_whole(0, 0, 0), True)
        self.assertIs(is_whole(1, 0, 0), False)
        self.assertIs(is_whole(-1, 0), False)

    def test_low_greater_than_high(self):
        for number in [-1, 0, 3, 4, 5, 6, 7]:
            self.assertIs(is_whole(number, 6, 4), False)
        self.assertIs(is_whole(True, 6, 4), False)

    def test_truths_are_none(self):
        for truth in [True, False]:
            self.assertIs(is_whole(truth, 0), False)
            self.assertIs(is_whole(truth, -5, 5), False)
            self.assertIs(is_whole(truth, 0, 1), False)

    def test_thirty_figures(self):
        self.assertIs(is_whole(BIG, 0), True)
        self.assertIs(is_whole(BIG, BIG, BIG), True)
        self.assertIs(is_whole(BIG - 1, BIG), False)
        self.assertIs(is_whole(BIG, 0, BIG - 1), False)
        self.assertIs(is_whole(-BIG, -BIG), True)
        self.assertIs(is_whole(-BIG, 1 - BIG, 0), False)
        self.assertIs(is_whole(5, -BIG, BIG), True)

    def test_no_numbers(self):
        for thing in odd_but(lambda thing: type(thing) is int):
            self.assertIs(is_whole(thing, -BIG), False)
            self.assertIs(is_whole(thing, 0, 500), False)

    def test_by_names(self):
        self.assertIs(is_whole(high=5, thing=5, low=0), True)
        self.assertIs(is_whole(low=0, thing=6, high=5), False)
        self.assertIs(is_whole(low=3, thing=2), False)


class IsWord(HallCase):

    def test_lengths(self):
        for length, wanted in [(0, False), (1, True), (2, True), (7, True), (8, True), (9, False), (4000, False)]:
            self.assertIs(is_word("q" * length), wanted, length)
            self.assertIs(is_word(("za" * length)[:length]), wanted, length)

    def test_each_letter(self):
        for letter in "abcdefghijklmnopqrstuvwxyz":
            self.assertIs(is_word(letter), True)
            self.assertIs(is_word(letter * 8), True)

    def test_each_other_sign_at_each_place(self):
        signs = [chr(code) for code in range(32, 127) if not 97 <= code <= 122] + ["\n"]
        for sign in signs:
            self.assertIs(is_word(sign), False)
            for length in [2, 5, 8]:
                for place in range(length):
                    text = "b" * place + sign + "b" * (length - place - 1)
                    self.assertIs(is_word(text), False, text)

    def test_no_texts(self):
        for thing in odd_but(lambda thing: isinstance(thing, str)):
            self.assertIs(is_word(thing), False)
        for thing in [["a"], ("a", "b"), {"a": 1}, [["tea"]]]:
            self.assertIs(is_word(thing), False)

    def test_by_name(self):
        self.assertIs(is_word(thing="tea"), True)
        self.assertIs(is_word(thing="Tea"), False)


class NumberIn(HallCase):

    def test_numbers(self):
        for number in [*range(0, 1200), 10 ** 9, 10 ** 29, BIG, 123456789012345678901234567890]:
            self.same(number_in(str(number)), number)

    def test_nought_ahead(self):
        self.same(number_in("0"), 0)
        for text in ["00", "01", "007", "0" * 30, "0" * 29 + "1", "0" * 31]:
            self.assertIsNone(number_in(text), text)

    def test_signs_blanks_and_none(self):
        for text in ["", " ", "-1", "-0", "+1", "+0", "-", "+", " 1", "1 ", "1 2", "1\n", "\n1", "1_0", "1.0", "1,0",
                     "0x1", "1e3", "a", "1a", "a1", "/", ":", "1/", "1:"]:
            self.assertIsNone(number_in(text), text)

    def test_each_other_sign_at_each_place(self):
        for sign in [chr(code) for code in range(32, 127) if not 48 <= code <= 57] + ["\n"]:
            for place in range(4):
                self.assertIsNone(number_in("1" * place + sign + "1" * (3 - place)))

    def test_thirty_and_thirty_one_figures(self):
        self.same(number_in("9" * 30), BIG)
        self.same(number_in("1" + "0" * 29), 10 ** 29)
        self.assertIsNone(number_in("9" * 31))
        self.assertIsNone(number_in("1" + "0" * 30))
        self.assertIsNone(number_in("1" * 4000))

    def test_no_texts(self):
        for thing in odd_but(lambda thing: isinstance(thing, str)):
            self.assertIsNone(number_in(thing))
        for thing in [["1"], ("1",), {"1": 1}, 12]:
            self.assertIsNone(number_in(thing))

    def test_odd_texts(self):
        told = [number_in(thing) for thing in odd_things() if isinstance(thing, str)]
        self.same([number for number in told if number is not None], [0, 1])

    def test_by_name(self):
        self.same(number_in(thing="12"), 12)


if __name__ == "__main__":
    unittest.main()
