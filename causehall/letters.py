"""Letters, and which is ahead of which."""

from causehall.counts import Counts
from causehall.errors import NoCauses, NoCounts, NoLetter, NoMember, NoNumber, NoWord, Unlike
from causehall.forms import MOST_LETTERS, MOST_MEMBERS, check_member
from causehall.words import is_whole, is_word


class Letter:
    """A sender's word, its number, and what the sender had delivered ahead of it; it never changes."""

    def __init__(self, sender, number, word, causes):
        if not is_whole(sender, 0, MOST_MEMBERS - 1):
            raise NoMember(sender)
        check_number_and_word(number, word)
        if not isinstance(causes, Counts):
            raise NoCounts(causes)
        check_member(sender, len(causes))
        if causes.of(sender) != number - 1 or max(causes.told()) > MOST_LETTERS:
            raise NoCauses(causes)
        self._sender = sender
        self._number = number
        self._word = word
        self._causes = causes

    def __eq__(self, other):
        return isinstance(other, Letter) and self._parts() == other._parts()

    def __str__(self):
        return f"{self._sender} {self._number} {self._word} {self._causes}"

    def sender(self):
        """The member that sent it."""
        return self._sender

    def number(self):
        """Its number among the letters of its sender."""
        return self._number

    def word(self):
        """Its word."""
        return self._word

    def causes(self):
        """Its row of counts."""
        return self._causes

    def counts_with(self):
        """The Counts of all that is ahead of it, itself too."""
        return self._causes.raised(self._sender)

    def id_of(self):
        """Its id."""
        return (self._sender, self._number)

    def is_ahead_of(self, other):
        """Whether it is a cause of the other letter."""
        if not isinstance(other, Letter):
            raise NoLetter(other)
        if len(other.causes()) != len(self._causes):
            raise Unlike(other)
        return other.causes().of(self._sender) >= self._number

    def _parts(self):
        """All four, to be compared at once."""
        return (self._sender, self._number, self._word, self._causes)


def check_number_and_word(number, word):
    """Refuse what is no number or no word of a letter."""
    if not is_whole(number, 1, MOST_LETTERS):
        raise NoNumber(number)
    if not is_word(word):
        raise NoWord(word)
