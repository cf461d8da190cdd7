"""RACES: ACCESSES that MEET, neither of them AHEAD of the other."""

from forkjoins.changes import WRITING
from forkjoins.events import all_ahead, events, next_ahead


def meet(one, other):
    """Whether the EVENTS of two rows MEET."""
    writing = one[2] in WRITING or other[2] in WRITING
    # A CELL stands in ACCESSES alone: so where one of both is WRITING the other one is an ACCESS, too.
    return writing and one[0] != other[0] and one[3] == other[3]


def meetings(rows):
    """The names of all two EVENTS of these rows that MEET: pairs, rising, the lesser name first."""
    return [
        (one[:2], other[:2]) for place, one in enumerate(rows) for other in rows[place + 1:] if meet(one, other)
    ]


def are_apart(ahead, one, other):
    """Whether neither of two EVENTS is AHEAD of the other."""
    return one not in all_ahead(ahead, other) and other not in all_ahead(ahead, one)


def races(store, program):
    """The RACES: pairs of names, rising, the lesser name first."""
    rows = events(store, program)
    ahead = next_ahead(rows)
    return tuple([(one, other) for one, other in meetings(rows) if are_apart(ahead, one, other)])
