"""PLACES PAPERS: from which SEGMENTS each REVISION sees its CELLS."""

from forkjoins.segments import seen_from
from forkjoins.states import OWN, PATH, ROOT, rows_in_use


def places_at(state, number):
    """The numbers of the SEGMENTS from which all CELLS are SEEN at the one of this number; None of None."""
    if number is None:
        return None
    return tuple([seen_from(state[2], number, cell) for cell in range(len(state[0]))])


def places_paper(state):
    """The PLACES PAPER of a STATE."""
    return tuple([
        (row[PATH], places_at(state, row[OWN]), places_at(state, row[ROOT])) for row in rows_in_use(state)
    ])
