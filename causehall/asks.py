"""Fewest asks: how many bring all letters to all members of a quiet hall, and a paper that shows it."""

from causehall.errors import NotQuiet, Stopped, TooMany
from causehall.rest import asleep
from causehall.words import is_whole

MOST_ASKING = 4


def fewest_asks(hall):
    """The least number of asks that bring all letters to all, and such asks, one behind the other."""
    paper = asks_paper(hall)
    rows = rows_in(hall)
    number = paper[rows]
    asks = []
    for _ in range(number):
        ask, rows = nearer(paper, rows)
        asks.append(ask)
    return (number, asks)


def asks_paper(hall):
    """From each way in which asks lead the members' counts to the least number of asks needed from it on."""
    check_quiet(hall)
    paper = {}
    fill(paper, rows_in(hall), all_rows(hall))
    return paper


def shows_asks(hall, number, paper):
    """Whether the thing is a paper by which fewer asks than this number don't do."""
    check_quiet(hall)
    if not is_whole(number, 0) or not isinstance(paper, dict):
        return False
    members = hall.members()
    for rows, left in paper.items():
        if not are_rows(rows, members) or not is_whole(left, 0):
            return False
    if paper.get(rows_in(hall)) != number:
        return False
    goal = all_rows(hall)
    for rows in paper:
        if not holds_of(paper, rows, goal):
            return False
    return True


def check_quiet(hall):
    """Refuse a hall of too many members, one that is not quiet, and one in which a member has stopped."""
    members = hall.members()
    if members > MOST_ASKING:
        raise TooMany(members)
    unquiet = len(hall.under_way()) + sum([len(hall.held(member)) for member in range(members)])
    if unquiet > 0:
        raise NotQuiet(unquiet)
    stopped = asleep(hall)
    if len(stopped) > 0:
        raise Stopped(stopped[0])


def rows_in(hall):
    """The counts of each member, as tuples."""
    members = range(hall.members())
    senders = [[ident[0] for ident in hall.ids(member)] for member in members]
    return tuple([tuple([sent_by.count(sender) for sender in members]) for sent_by in senders])


def all_rows(hall):
    """The counts of each member where all have all letters, as tuples."""
    return (hall.book().counts().told(),) * hall.members()


def steps_from(rows):
    """Each ask, with the counts of all behind it and its flow."""
    members = range(len(rows))
    return [(("ask", one, other), asked(rows, one, other)) for one in members for other in members if one != other]


def asked(rows, one, other):
    """The counts of all where the one has asked the other: its own are joined with the other's."""
    joined = tuple([max(own, its) for own, its in zip(rows[one], rows[other])])
    return (*rows[:one], joined, *rows[one + 1:])


def nearer(paper, rows):
    """An ask behind which one less is needed, with the counts of all behind it."""
    return [step for step in steps_from(rows) if paper[step[1]] < paper[rows]][0]


def fill(paper, rows, goal):
    """Put these counts into the paper, and all to which asks lead from them."""
    further = [behind for _, behind in steps_from(rows) if behind != rows]
    for behind in further:
        # Counts only grow, and each member learns of three others at most, so this never goes deep.
        if behind not in paper:
            fill(paper, behind, goal)
    if rows == goal:
        paper[rows] = 0
    else:
        paper[rows] = 1 + min([paper[behind] for behind in further])


def are_rows(thing, members):
    """Whether the thing is a tuple of the counts of so many members, each as a tuple."""
    if not isinstance(thing, tuple) or len(thing) != members:
        return False
    for row in thing:
        if not isinstance(row, tuple) or len(row) != members:
            return False
        if not all([is_whole(count, 0) for count in row]):
            return False
    return True


def holds_of(paper, rows, goal):
    """Whether the number is 0 just where all have all, and each ask leads to one lesser by at most one."""
    left = paper[rows]
    if (left == 0) != (rows == goal):
        return False
    for _, behind in steps_from(rows):
        if behind not in paper or paper[behind] < left - 1:
            return False
    return True
