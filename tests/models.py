"""Plain models that the tests hold the program against: sets, lists and dicts alone."""


def causes_of(row):
    """The ids of all letters that a row of counts has."""
    return {(member, number) for member, count in enumerate(row) for number in range(1, count + 1)}


class EarModel:
    """What a member has of letters; a letter is an id, a word and a row of counts, a tuple."""

    def __init__(self, members, member):
        self.members = members
        self.member = member
        self.order = []
        self.letters = {}

    def twin(self):
        twin = EarModel(self.members, self.member)
        twin.order, twin.letters = list(self.order), dict(self.letters)
        return twin

    def kept(self):
        kept = self.twin()
        kept.letters = {ident: self.letters[ident] for ident in self.order}
        return kept

    def counts(self):
        return tuple(sum(1 for ident in self.order if ident[0] == member) for member in range(self.members))

    def held(self):
        return sorted(set(self.letters) - set(self.order))

    def lacking(self, ident):
        return sorted(causes_of(self.letters[ident][1]) - set(self.order))

    def wants(self):
        return sorted({cause for ident in self.held() for cause in self.lacking(ident)} - set(self.letters))

    def send(self, word):
        row = self.counts()
        ident = (self.member, row[self.member] + 1)
        self.letters[ident] = (word, row)
        self.order.append(ident)
        return (ident, word, row)

    def is_forged(self, ident, word, row):
        if ident in self.letters and self.letters[ident] != (word, row):
            return True
        own = {one for one in causes_of(row) | {ident} if one[0] == self.member}
        return not own <= set(self.order)

    def take(self, ident, word, row):
        """The ids delivered by it."""
        self.letters.setdefault(ident, (word, row))
        many = len(self.order)
        while free := [one for one in self.held() if not self.lacking(one)]:
            self.order.append(free[0])
        return self.order[many:]

    def answers(self, counts):
        return [ident for ident in self.order if ident[1] > counts[ident[0]]]

    def short(self, ident):
        """The short letter of an id whose causes are all there."""
        word, row = self.letters[ident]
        causes = causes_of(row)
        direct = [one for one in causes if not any(one in causes_of(self.letters[other][1]) for other in causes)]
        return (*ident, word, tuple(sorted(one for one in direct if one[0] != ident[0])))

    def named(self, short):
        """The ids that a short letter names, its sender's one ahead too."""
        sender, number, _, ids = short
        return [*ids, (sender, number - 1)] if number > 1 else list(ids)

    def lacks_for(self, short):
        return sorted(set(self.named(short)) - set(self.letters))

    def whole(self, short):
        """The letter that a short one stands for, or None where its ids are no direct causes of one."""
        named = self.named(short)
        above = {one: causes_of(self.letters[one][1]) for one in named}
        sender, number, word, ids = short
        if any(one in above[other] for one in ids for other in named):
            return None
        if any((sender, number) in above[one] for one in ids):
            return None
        causes = set(named).union(*above.values())
        return ((sender, number), word, tuple(sum(1 for one in causes if one[0] == k) for k in range(self.members)))
