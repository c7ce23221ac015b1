"""Ears: what a member has of letters, delivered and held back."""

from causehall.books import direct_causes, ids_beyond
from causehall.counts import Counts
from causehall.errors import Forged, NoCounts, NoLetter, NotThere, NoWord, Unlike
from causehall.forms import check_member, check_members, is_ident
from causehall.letters import Letter
from causehall.shortrows import short_by, whole_by
from causehall.words import is_word


class Ear:
    """The letters that a member delivered, in order, and those that it holds back."""

    def __init__(self, members, member):
        check_members(members)
        check_member(member, members)
        self._members = members
        self._member = member
        self._letters = {}
        self._held = {}
        self._counts = Counts([0] * members)

    def __len__(self):
        return len(self._letters)

    def send(self, word):
        """The member's next letter, which it sends and has delivered then."""
        if not is_word(word):
            raise NoWord(word)
        letter = Letter(self._member, self._counts.of(self._member) + 1, word, self._counts)
        self._deliver(letter)
        return letter

    def take(self, letter):
        """Take a letter; the ids of all that is delivered then, in order."""
        if not isinstance(letter, Letter):
            raise NoLetter(letter)
        if len(letter.causes()) != self._members:
            raise Unlike(letter)
        if self._is_forged(letter):
            raise Forged(letter)
        return self._hold(letter)

    def take_short(self, short):
        """Take a short letter as the whole one that it stands for."""
        letter = whole_by(self._members, {**self._letters, **self._held}, short)
        if self._is_forged(letter):
            raise Forged(short)
        return self._hold(letter)

    def member(self):
        """The member itself."""
        return self._member

    def counts(self):
        """How many letters of each member it delivered."""
        return self._counts

    def ids(self):
        """The ids of the letters that it delivered, in order."""
        return list(self._letters)

    def letter(self, ident):
        """The letter of this id, delivered or held back."""
        if self._is_among(ident, self._letters):
            return self._letters[ident]
        if self._is_among(ident, self._held):
            return self._held[ident]
        raise NotThere(ident)

    def short(self, ident):
        """The short letter of this id, which it delivered."""
        if not self._is_among(ident, self._letters):
            raise NotThere(ident)
        letter = self._letters[ident]
        return short_by(letter, direct_causes(self._letters, letter))

    def held(self):
        """The ids of the letters that it holds back, rising."""
        return sorted(self._held)

    def lacking(self, ident):
        """The ids of the causes of a letter held back that it has not delivered, rising."""
        if not self._is_among(ident, self._held):
            raise NotThere(ident)
        return self._undelivered(self._held[ident])

    def wants(self):
        """The ids of the causes of letters held back that it has not at all, rising."""
        lacking = [ident for letter in self._held.values() for ident in self._undelivered(letter)]
        return sorted({ident for ident in lacking if ident not in self._held})

    def answers(self, counts):
        """The letters that it delivered and these counts have not, in order."""
        if not isinstance(counts, Counts):
            raise NoCounts(counts)
        if len(counts) != self._members:
            raise Unlike(counts)
        return [letter for letter in self._letters.values() if letter.number() > counts.of(letter.sender())]

    def kept(self):
        """An Ear that delivered the same and holds nothing back."""
        kept = Ear(self._members, self._member)
        kept._letters = {ident: letter for ident, letter in self._letters.items()}
        kept._counts = self._counts
        return kept

    def twin(self):
        """An Ear that has the same, which goes its own way from then on."""
        twin = self.kept()
        twin._held = {ident: letter for ident, letter in self._held.items()}
        return twin

    def _is_among(self, ident, letters):
        """Whether the thing is the id of one of these letters."""
        return is_ident(ident, self._members) and ident in letters

    def _is_forged(self, letter):
        """Whether another letter has this id, or it tells of a letter that this member has not sent."""
        ident = letter.id_of()
        known = self._letters.get(ident, self._held.get(ident, letter))
        return known != letter or letter.counts_with().of(self._member) > self._counts.of(self._member)

    def _hold(self, letter):
        """Hold the letter back, if it is new, and deliver all that is free then; their ids, in order."""
        ident = letter.id_of()
        if ident in self._letters or ident in self._held:
            return []
        self._held[ident] = letter
        delivered = []
        free = self._least_free()
        while free is not None:
            self._deliver(self._held.pop(free))
            delivered.append(free)
            free = self._least_free()
        return delivered

    def _least_free(self):
        """The least id of a letter held back whose causes are all delivered, or None."""
        free = [ident for ident, letter in self._held.items() if self._counts.covers(letter.causes())]
        return min(free, default=None)

    def _deliver(self, letter):
        """The letter is delivered from now on."""
        self._letters[letter.id_of()] = letter
        self._counts = self._counts.raised(letter.sender())

    def _undelivered(self, letter):
        """The ids of the letter's causes that it has not delivered, rising."""
        return ids_beyond(self._counts, letter.causes())
