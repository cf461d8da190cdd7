"""KINDS and STORES."""

from forkjoins.kinds import is_number, is_numbers, rises
from forkjoins.sums import is_sum

BARE = ("plain", "sum", "most", "set", "list")


def is_kind(thing):
    """Whether the thing, any, is a KIND."""
    if isinstance(thing, str):
        return thing in BARE
    return isinstance(thing, tuple) and len(thing) == 2 and thing[0] == "own" and is_sum(thing[1])


def can_have(kind, thing):
    """Whether a CELL of this KIND CAN HAVE the thing, any."""
    if kind == "set":
        return is_numbers(thing) and rises(thing)
    if kind == "list":
        return is_numbers(thing)
    return is_number(thing)


def is_cell_row(thing):
    """Whether the thing, any, is a pair of a KIND and what a CELL of it CAN HAVE."""
    if not isinstance(thing, tuple) or len(thing) != 2:
        return False
    return is_kind(thing[0]) and can_have(thing[0], thing[1])


def is_store(thing):
    """Whether the thing, any, is a STORE."""
    if not isinstance(thing, tuple) or len(thing) == 0:
        return False
    return all([is_cell_row(row) for row in thing])


def kinds_of(store):
    """The KINDS of the CELLS of a STORE."""
    return tuple([row[0] for row in store])


def values_of(store):
    """The VALUES of a STORE."""
    return tuple([row[1] for row in store])


def with_values(store, values):
    """The STORE of like KINDS that has these VALUES."""
    return tuple([(row[0], has) for row, has in zip(store, values)])
