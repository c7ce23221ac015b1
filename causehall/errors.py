"""The refusals: three families, and under each the errors of one kind."""


class HallError(ValueError):
    """What was handed in isn't what is wanted."""


class Missing(KeyError):
    """What was asked for isn't there."""


class Barred(LookupError):
    """What was asked for can't be done now."""


class NoNumber(HallError):
    """This is no whole number such as is wanted."""

    def __init__(self, found):
        super().__init__("no such whole number")
        self.found = found


class NoWord(HallError):
    """This is no word."""

    def __init__(self, found):
        super().__init__("no word")
        self.found = found


class NoMember(HallError):
    """This is no member such as is wanted."""

    def __init__(self, found):
        super().__init__("no such member")
        self.found = found


class NoCounts(HallError):
    """These are no counts, or nothing to make counts of."""

    def __init__(self, found):
        super().__init__("no counts")
        self.found = found


class Unlike(HallError):
    """This is of another number of members."""

    def __init__(self, found):
        super().__init__("of another number of members")
        self.found = found


class NoLetter(HallError):
    """This is no letter."""

    def __init__(self, found):
        super().__init__("no letter")
        self.found = found


class NoCauses(HallError):
    """These can't be the causes, or not what the causes are told by."""

    def __init__(self, found):
        super().__init__("no such causes")
        self.found = found


class Forged(HallError):
    """Another letter has this id, or nobody can have sent this one."""

    def __init__(self, found):
        super().__init__("a forged letter")
        self.found = found


class NoShort(HallError):
    """This is no short letter."""

    def __init__(self, found):
        super().__init__("no short letter")
        self.found = found


class NoThing(HallError):
    """This is no thing that a seat hears."""

    def __init__(self, found):
        super().__init__("no thing for a seat")
        self.found = found


class NoDeed(HallError):
    """This is no deed."""

    def __init__(self, found):
        super().__init__("no deed")
        self.found = found


class NoHistory(HallError):
    """This is no history."""

    def __init__(self, found):
        super().__init__("no history")
        self.found = found


class NoRow(HallError):
    """This row can't be."""

    def __init__(self, found):
        super().__init__("no such row")
        self.found = found


class NoText(HallError):
    """The text has no right form at this row."""

    def __init__(self, at):
        super().__init__("no right form at a row")
        self.at = at


class TooMany(HallError):
    """There are more than so many."""

    def __init__(self, many):
        super().__init__("too many")
        self.many = many


class NotThere(Missing):
    """Nothing is there by this id."""

    def __init__(self, found):
        super().__init__("not there")
        self.found = found


class NotOnRoad(Missing):
    """Nothing under way has this number."""

    def __init__(self, found):
        super().__init__("not on a road")
        self.found = found


class Lacks(Barred):
    """These are wanted first."""

    def __init__(self, found):
        super().__init__("something is wanted first")
        self.found = found


class Known(Barred):
    """This is there already."""

    def __init__(self, found):
        super().__init__("known already")
        self.found = found


class Stopped(Barred):
    """This member has stopped."""

    def __init__(self, found):
        super().__init__("the member has stopped")
        self.found = found


class Awake(Barred):
    """This member has not stopped."""

    def __init__(self, found):
        super().__init__("the member has not stopped")
        self.found = found


class AllTold(Barred):
    """This member told the whole row."""

    def __init__(self, found):
        super().__init__("all is told")
        self.found = found


class NoSeat(Barred):
    """This member has no seat."""

    def __init__(self, found):
        super().__init__("the member has no seat")
        self.found = found


class Full(Barred):
    """There are so many already, and no more may be."""

    def __init__(self, many):
        super().__init__("full")
        self.many = many


class NotQuiet(Barred):
    """So many things are under way or held back."""

    def __init__(self, many):
        super().__init__("not quiet")
        self.many = many
