"""STATES: all that there is of a run between two steps."""

from forkjoins.stores import kinds_of, values_of

# The places in a row of a STATE.
PATH = 0
WORD = 1
LEFT = 2
SLOTS = 3
HANDLES = 4
TOLD = 5
WRITTEN = 6
OWN = 7
ROOT = 8


def begun(store, program):
    """The STATE at the beginning: the first REVISION alone, on the top SEGMENT."""
    word = "runs" if program else "ended"
    first = ((), word, program, (), (), (), (), 0, None)
    top = (0, None, tuple(enumerate(values_of(store))))
    return (kinds_of(store), (first,), (top,), 1)


def rows_in_use(state):
    """The rows of those REVISIONS that aren't DONE WITH."""
    return [row for row in state[1] if row[OWN] is not None]
