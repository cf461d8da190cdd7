"""Looks into the PLAIN RUN: the row of a PATH, and who is LOST."""

from forkjoins.errors import NoRevision
from forkjoins.kinds import is_numbers
from forkjoins.revisions import run_of


def row_of(rows, path):
    """The row of this PATH among RUN ROWS; or NoRevision, the path any thing."""
    # Looked at ahead of ==, for by that (True,) would be (1,).
    if is_numbers(path):
        for row in rows:
            if row[0] == path:
                return row
    raise NoRevision(path)


def lost(store, program):
    """The PATHS of all REVISIONS to which a handle was LOST, rising."""
    return tuple(sorted(run_of(store, program).lost))
