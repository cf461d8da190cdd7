"""The checkers of CHAINS and CUTS."""

from forkjoins.ahead import is_point, links_of
from forkjoins.errors import NoPaper


def ask_points_of_chain(drawn, chain):
    """Refuses the first entry that is no POINT."""
    for place, entry in enumerate(chain):
        if not is_point(drawn, entry):
            raise NoPaper("point", place)


def ask_points_of_cut(drawn, cut):
    """Refuses the first entry that is no POINT, or not above the one ahead."""
    for place, entry in enumerate(cut):
        # Points alone are compared: the one ahead is known to be one by then.
        if not is_point(drawn, entry) or (place > 0 and cut[place - 1] >= entry):
            raise NoPaper("point", place)


def is_closed(drawn, point, cut):
    """Whether all to which the POINT LINKS are in the cut."""
    return all([linked in cut for linked in links_of(drawn, point)])


def lets_chain(drawn, one, other, thing):
    """True where the thing, any, is a CHAIN from the one POINT to the other; or NoPaper."""
    if not isinstance(thing, tuple) or len(thing) < 2:
        raise NoPaper("shape", -1)
    ask_points_of_chain(drawn, thing)
    if thing[0] != one:
        raise NoPaper("begin", -1)
    if thing[-1] != other:
        raise NoPaper("end", -1)
    for place, (here, there) in enumerate(zip(thing, thing[1:])):
        if there not in links_of(drawn, here):
            raise NoPaper("link", place)
    return True


def lets_cut(drawn, one, other, thing):
    """True where the thing, any, is a CUT of the one POINT and the other; or NoPaper."""
    if not isinstance(thing, tuple):
        raise NoPaper("shape", -1)
    ask_points_of_cut(drawn, thing)
    if other in thing:
        raise NoPaper("other", -1)
    for place, entry in enumerate(thing):
        if not is_closed(drawn, entry, thing):
            raise NoPaper("open", place)
    if not is_closed(drawn, one, thing):
        raise NoPaper("one", -1)
    return True
