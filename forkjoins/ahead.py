"""Which POINTS of a DIAGRAM are AHEAD of which, by CHAINS and CUTS."""

from forkjoins.errors import NoRevision
from forkjoins.kinds import is_number, is_numbers


def is_point(drawn, thing):
    """Whether the thing, any, is a POINT of the DIAGRAM."""
    if not isinstance(thing, tuple) or len(thing) != 2:
        return False
    path, place = thing
    # Looked at ahead of ==, for by that True would be 1.
    if not is_numbers(path) or not is_number(place):
        return False
    return any([known == path and 0 <= place <= len(events) for known, events in drawn])


def ask_points(drawn, one, other):
    """Refuses the first of both that is no POINT."""
    if not is_point(drawn, one):
        raise NoRevision(one)
    if not is_point(drawn, other):
        raise NoRevision(other)


def joining_points(drawn, path):
    """The POINTS whose event is the "join" of the REVISION of this PATH."""
    return [
        (known, place) for known, events in drawn for place, event in enumerate(events) if event == ("join", path)
    ]


def links_of(drawn, point):
    """The POINTS to which a POINT LINKS."""
    path, place = point
    by_path = {known: row for known, row in drawn}
    events = by_path[path]
    if place == len(events):
        return joining_points(drawn, path)
    links = [(path, place + 1)]
    if events[place][0] == "fork":
        links.append((events[place][1], 0))
    return links


def ways_here(drawn, one):
    """All POINTS that the one is AHEAD of, each with a POINT that LINKS to it and to which LINKS lead from the one."""
    found = {}
    waiting = [one]
    while waiting:
        point = waiting.pop()
        for linked in links_of(drawn, point):
            if linked not in found:
                found[linked] = point
                waiting.append(linked)
    return found


def chain_to(found, one, other):
    """The CHAIN from the one to the other, from what ways_here found."""
    chain = [other]
    while chain[-1] != one:
        chain.append(found[chain[-1]])
    return tuple(chain[::-1])


def is_ahead(drawn, one, other):
    """Whether the one POINT is AHEAD of the other; or NoRevision, both any things."""
    ask_points(drawn, one, other)
    return other in ways_here(drawn, one)


def chain_or_cut(drawn, one, other):
    """("chain", CHAIN) of both POINTS or ("cut", CUT); or NoRevision."""
    ask_points(drawn, one, other)
    found = ways_here(drawn, one)
    if other in found:
        return ("chain", chain_to(found, one, other))
    return ("cut", tuple(sorted(found)))
