"""Deeds for a history: a history that can be is made to happen."""

from causehall.errors import NoHistory
from causehall.histories import course_of


def deeds_for(members, rows):
    """Deeds by which a new Hall of whole letters has just this history."""
    course_of(members, rows)
    if any([row[0] == "told" for row in rows]):
        raise NoHistory(rows)
    deeds = []
    numbers = {}
    sent = [0] * members
    last = 0
    for row in rows:
        member = row[1]
        if row[0] == "got":
            deeds.append(("come", numbers[row[1:]]))
        else:
            deeds.append(("send", member, row[2]))
            sent[member] += 1
            # A send alone puts things on the roads here, one to each other member.
            for other in range(members):
                if other != member:
                    last += 1
                    numbers[(other, member, sent[member])] = last
    return deeds
