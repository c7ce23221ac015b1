"""Plain models that the tests hold the program against: sets, lists and dicts alone."""


def causes_of(row):
    """The ids of all letters that a row of counts has."""
    return {(member, number) for member, count in enumerate(row) for number in range(1, count + 1)}


class EarModel:
    """What a member has of letters; a letter is an id, a word and a row of counts, a tuple."""

    def __init__(self, members, member):
        self.members = members
        self.member = member
        self.order = []
        self.letters = {}

    def twin(self):
        twin = EarModel(self.members, self.member)
        twin.order, twin.letters = list(self.order), dict(self.letters)
        return twin

    def kept(self):
        kept = self.twin()
        kept.letters = {ident: self.letters[ident] for ident in self.order}
        return kept

    def counts(self):
        return tuple(sum(1 for ident in self.order if ident[0] == member) for member in range(self.members))

    def held(self):
        return sorted(set(self.letters) - set(self.order))

    def lacking(self, ident):
        return sorted(causes_of(self.letters[ident][1]) - set(self.order))

    def wants(self):
        return sorted({cause for ident in self.held() for cause in self.lacking(ident)} - set(self.letters))

    def send(self, word):
        row = self.counts()
        ident = (self.member, row[self.member] + 1)
        self.letters[ident] = (word, row)
        self.order.append(ident)
        return (ident, word, row)

    def is_forged(self, ident, word, row):
        if ident in self.letters and self.letters[ident] != (word, row):
            return True
        own = {one for one in causes_of(row) | {ident} if one[0] == self.member}
        return not own <= set(self.order)

    def take(self, ident, word, row):
        """The ids delivered by it."""
        self.letters.setdefault(ident, (word, row))
        many = len(self.order)
        while free := [one for one in self.held() if not self.lacking(one)]:
            self.order.append(free[0])
        return self.order[many:]

    def answers(self, counts):
        return [ident for ident in self.order if ident[1] > counts[ident[0]]]

    def short(self, ident):
        """The short letter of an id whose causes are all there."""
        word, row = self.letters[ident]
        causes = causes_of(row)
        direct = [one for one in causes if not any(one in causes_of(self.letters[other][1]) for other in causes)]
        return (*ident, word, tuple(sorted(one for one in direct if one[0] != ident[0])))

    def named(self, short):
        """The ids that a short letter names, its sender's one ahead too."""
        sender, number, _, ids = short
        return [*ids, (sender, number - 1)] if number > 1 else list(ids)

    def lacks_for(self, short):
        return sorted(set(self.named(short)) - set(self.letters))

    def whole(self, short):
        """The letter that a short one stands for, or None where its ids are no direct causes of one."""
        named = self.named(short)
        above = {one: causes_of(self.letters[one][1]) for one in named}
        sender, number, word, ids = short
        if any(one in above[other] for one in ids for other in named):
            return None
        if any((sender, number) in above[one] for one in ids):
            return None
        causes = set(named).union(*above.values())
        return ((sender, number), word, tuple(sum(1 for one in causes if one[0] == k) for k in range(self.members)))


class HallModel:
    """A hall of plain lists; the deeds that are handed to do are such as may be done."""

    def __init__(self, members, short=False):
        self.members = members
        self.short = short
        self.ears = [EarModel(members, member) for member in range(members)]
        self.ways = []
        self.last = 0
        self.sent = {}
        self.rows = []
        self.deeds = []

    def twin(self):
        twin = type(self)(self.members)
        self.copy_to(twin)
        return twin

    def copy_to(self, twin):
        twin.short, twin.last = self.short, self.last
        twin.ears = [ear.twin() for ear in self.ears]
        twin.ways, twin.sent = list(self.ways), dict(self.sent)
        twin.rows, twin.deeds = list(self.rows), list(self.deeds)

    def refused(self, deed):
        """The name of the refusal of a deed of right form, and what it is of; or None."""
        if deed[0] == "send" and len(self.sent) == 30:
            return ("Full", 30)
        if deed[0] in ("come", "lose", "double") and deed[1] not in [way[0] for way in self.ways]:
            return ("NotOnRoad", deed[1])
        return None

    def do(self, deed):
        rows = getattr(self, "do_" + deed[0])(*deed[1:])
        self.rows += rows
        self.deeds.append(deed)
        return rows

    def put(self, start, goal, thing):
        self.last += 1
        self.ways.append((self.last, start, goal, thing))

    def put_letter(self, start, goal, ident):
        if self.short:
            self.put(start, goal, ("short", *self.ears[start].short(ident)))
        else:
            self.put(start, goal, ("letter", *ident, *self.sent[ident]))

    def others(self, member):
        return [other for other in range(self.members) if other != member]

    def do_send(self, member, word):
        ident, word, row = self.ears[member].send(word)
        self.sent[ident] = (word, row)
        for other in self.others(member):
            self.put_letter(member, other, ident)
        return [("sent", member, word)] + self.behind(member)

    def do_ask(self, member, other):
        self.put(member, other, ("ask", self.ears[member].counts()))
        return []

    def take_way(self, number):
        way = [way for way in self.ways if way[0] == number][0]
        self.ways.remove(way)
        return way[1:]

    def do_lose(self, number):
        self.take_way(number)
        return []

    def do_double(self, number):
        self.put(*[way for way in self.ways if way[0] == number][0][1:])
        return []

    def do_come(self, number):
        return self.reach(*self.take_way(number))

    def do_flow(self):
        rows = []
        while self.ways:
            rows += self.do_come(min(way[0] for way in self.ways))
        return rows

    def reach(self, start, goal, thing):
        ear = self.ears[goal]
        if thing[0] == "ask":
            for ident in ear.answers(thing[1]):
                self.put_letter(goal, start, ident)
            return []
        if thing[0] == "letter":
            delivered = ear.take(thing[1:3], thing[3], thing[4])
        else:
            delivered = [] if ear.lacks_for(thing[1:]) else ear.take(*ear.whole(thing[1:]))
        return [("got", goal, *ident) for ident in delivered] + (self.behind(goal) if delivered else [])

    def behind(self, member):
        return []

    def road_deeds(self):
        return [(word, way[0]) for word in ("come", "lose", "double") for way in self.ways]

    def asks(self):
        return [("ask", one, other) for one in range(self.members) for other in self.others(one)]

    def may(self):
        return self.road_deeds() + self.asks() + [("flow",)]

    def state(self):
        return (tuple((tuple(ear.order), tuple(ear.held())) for ear in self.ears),
                tuple((*ident, *self.sent[ident]) for ident in sorted(self.sent)),
                tuple(sorted(way[1:] for way in self.ways)))


class SeatModel:
    """What a member has of the order, by the rules one by one."""

    def __init__(self, members, member):
        self.members, self.member = members, member
        self.term = self.hop = self.row_term = self.sure = 0
        self.row = []
        self.seated = member == 0
        self.answers = None
        self.lengths = {}

    def twin(self):
        twin = SeatModel(self.members, self.member)
        twin.__dict__.update(self.__dict__)
        twin.row, twin.lengths = list(self.row), dict(self.lengths)
        twin.answers = None if self.answers is None else dict(self.answers)
        return twin

    def kept(self):
        kept = self.twin()
        kept.seated, kept.answers, kept.lengths = False, None, {}
        return kept

    def state(self):
        answers = self.answers
        if answers is not None:
            answers = tuple((member, *answers[member]) for member in sorted(answers))
        return (self.term, self.hop, self.row_term, tuple(self.row), self.sure, self.seated, answers,
                tuple(sorted(self.lengths.items())))

    def all_others(self, thing):
        return [(other, thing) for other in range(self.members) if other != self.member]

    def tell_row(self):
        self.sure = min(self.sure, len(self.row))
        return self.all_others(("row", self.term, self.hop, tuple(self.row), self.sure))

    def call(self):
        self.term = next(t for t in range(self.term + 1, self.term + 6) if t % self.members == self.member)
        self.hop, self.seated, self.lengths = 0, False, {}
        self.answers = {self.member: (self.row_term, tuple(self.row), self.sure)}
        return self.all_others(("call", self.term))

    def hand(self, other):
        self.hop += 1
        self.seated, self.lengths = False, {}
        return [(other, ("seat", self.term, self.hop, tuple(self.row), self.sure))]

    def again(self):
        return self.tell_row()

    def give_numbers(self, idents):
        new = [ident for ident in dict.fromkeys(idents) if ident not in self.row]
        if not self.seated or not new:
            return []
        self.row += new
        return self.tell_row()

    def hear(self, start, thing):
        return getattr(self, "hear_" + thing[0])(start, *thing[1:])

    def hear_call(self, start, t):
        if t > self.term:
            self.term, self.hop, self.seated, self.answers, self.lengths = t, 0, False, None, {}
        if self.term == t and self.row_term < t:
            return [(start, ("yes", t, self.row_term, tuple(self.row), self.sure))]
        return []

    def hear_yes(self, start, t, e, row, sure):
        if self.answers is None or t != self.term or start in self.answers:
            return []
        self.answers[start] = (e, row, sure)
        if len(self.answers) <= self.members / 2:
            return []
        given = [self.answers[member] for member in sorted(self.answers)]
        newest = [answer for answer in given if answer[0] == max(one[0] for one in given)]
        longest = [answer for answer in newest if len(answer[1]) == max(len(one[1]) for one in newest)]
        self.row, self.row_term = list(longest[0][1]), t
        self.sure = max(answer[2] for answer in given)
        self.hop, self.seated, self.answers, self.lengths = 0, True, None, {}
        return self.tell_row()

    def hear_row(self, start, t, h, row, sure):
        if t < self.term:
            return []
        if t > self.term:
            self.term, self.hop, self.seated, self.lengths = t, h, False, {}
        else:
            self.hop = max(self.hop, h)
        self.answers = None
        if self.row_term < t or len(self.row) < len(row):
            self.row, self.row_term = list(row), t
        self.sure = min(max(self.sure, sure), len(self.row))
        return [(start, ("has", t, len(self.row)))]

    def hear_has(self, start, t, length):
        if not self.seated or t != self.term:
            return []
        self.lengths[start] = max(self.lengths.get(start, 0), length)
        lengths = [self.lengths.get(member, 0) for member in range(self.members) if member != self.member]
        lengths.append(len(self.row))
        before = self.sure
        for many in range(len(self.row) + 1):
            if sum(1 for one in lengths if one >= many) > self.members / 2:
                self.sure = max(self.sure, many)
        return self.tell_row() if self.sure > before else []

    def hear_seat(self, start, t, h, row, sure):
        if t < self.term or (t == self.term and h <= self.hop):
            return []
        self.term, self.hop, self.row, self.row_term, self.sure = t, h, list(row), t, max(self.sure, sure)
        self.seated, self.answers, self.lengths = True, None, {}
        return self.tell_row()


class NumberModel(HallModel):
    """A hall with numbers, of plain lists."""

    def __init__(self, members):
        super().__init__(members)
        self.seats = [SeatModel(members, member) for member in range(members)]
        self.told = [[] for _ in range(members)]
        self.stopped = [False] * members

    def copy_to(self, twin):
        super().copy_to(twin)
        twin.seats = [seat.twin() for seat in self.seats]
        twin.told, twin.stopped = [list(told) for told in self.told], list(self.stopped)

    def refused(self, deed):
        if deed[0] in ("send", "ask", "call", "hand", "again", "stop") and self.stopped[deed[1]]:
            return ("Stopped", deed[1])
        if deed[0] == "up" and not self.stopped[deed[1]]:
            return ("Awake", deed[1])
        if deed[0] in ("hand", "again") and not self.seats[deed[1]].seated:
            return ("NoSeat", deed[1])
        return super().refused(deed)

    def put_all(self, member, things):
        for goal, thing in things:
            self.put(member, goal, thing)
        return []

    def do_call(self, member):
        return self.put_all(member, self.seats[member].call())

    def do_hand(self, member, other):
        return self.put_all(member, self.seats[member].hand(other))

    def do_again(self, member):
        return self.put_all(member, self.seats[member].again())

    def do_stop(self, member):
        self.ears[member], self.seats[member] = self.ears[member].kept(), self.seats[member].kept()
        self.stopped[member] = True
        return []

    def do_up(self, member):
        self.stopped[member] = False
        return []

    def reach(self, start, goal, thing):
        if self.stopped[goal]:
            return []
        if thing[0] in ("letter", "ask"):
            return super().reach(start, goal, thing)
        self.put_all(goal, self.seats[goal].hear(start, thing))
        return self.behind(goal)

    def behind(self, member):
        seat, told, order = self.seats[member], self.told[member], self.ears[member].order
        self.put_all(member, seat.give_numbers(order))
        many = len(told)
        while len(told) < seat.sure and seat.row[len(told)] in order:
            told.append(seat.row[len(told)])
        return [("told", member, at, *ident) for at, ident in enumerate(told, start=1) if at > many]

    def holders(self):
        return sorted((seat.term, seat.hop, seat.member) for seat in self.seats if seat.seated)

    def may(self):
        awake = [member for member in range(self.members) if not self.stopped[member]]
        seated = [member for member in awake if self.seats[member].seated]
        deeds = self.road_deeds() + [ask for ask in self.asks() if ask[1] in awake]
        deeds += [("call", member) for member in awake]
        deeds += [("hand", member, other) for member in seated for other in self.others(member)]
        deeds += [("again", member) for member in seated] + [("stop", member) for member in awake]
        return deeds + [("up", m) for m in range(self.members) if self.stopped[m]] + [("flow",)]

    def state(self):
        of_members = tuple((seat.state(), len(told), stopped)
                           for seat, told, stopped in zip(self.seats, self.told, self.stopped))
        return (*super().state(), of_members, tuple(max(self.told, key=len)))
