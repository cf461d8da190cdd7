"""What each REVISION of a STATE HAS, and what it began with."""

from forkjoins.errors import NoRevision
from forkjoins.rows import row_of
from forkjoins.segments import seen
from forkjoins.states import OWN, ROOT


def seen_at(state, path, place):
    """What is SEEN at the SEGMENT that stands at this place of the row of the PATH; or NoRevision."""
    number = row_of(state[1], path)[place]
    if number is None:
        raise NoRevision(path)
    return seen(state[2], number)


def view(state, path):
    """What the REVISION of this PATH, any thing, HAS; or NoRevision."""
    return seen_at(state, path, OWN)


def beginning(state, path):
    """The BEGINNING of the REVISION of this PATH, any thing; or NoRevision."""
    return seen_at(state, path, ROOT)
