"""STATES: all that there is of a run between two steps."""

from forkjoins.stores import kinds_of, values_of


def begun(store, program):
    """The STATE at the beginning: the first REVISION alone, on the top SEGMENT."""
    word = "runs" if program else "ended"
    first = ((), word, program, (), (), (), (), 0, None)
    top = (0, None, tuple(enumerate(values_of(store))))
    return (kinds_of(store), (first,), (top,), 1)
