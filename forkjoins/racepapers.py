"""RACE PAPERS and FREE PAPERS: two that RACE with a cut, or chains that show that none do."""

from forkjoins.diagram import diagram
from forkjoins.events import all_ahead, events, next_ahead
from forkjoins.races import meetings, races


def cut_around(ahead, paths, one, other):
    """The cut of all that is AHEAD of the one or the other: pairs (path, many), one for each of the PATHS."""
    inside = list(all_ahead(ahead, one)) + list(all_ahead(ahead, other))
    # Whatever is AHEAD has all that its own REVISION did sooner AHEAD, too: so the last one tells how many.
    return tuple([(path, max([number + 1 for home, number in inside if home == path], default=0)) for path in paths])


def chain_of(ahead, pair):
    """The names from the one of both to the other of both, each NEXT BEHIND the one ahead."""
    first, last = pair
    found = all_ahead(ahead, last)
    if first not in found:
        last, first = pair
        found = all_ahead(ahead, last)
    chain = [first]
    while chain[-1] != last:
        chain.append(found[chain[-1]])
    return tuple(chain)


def race_paper(store, program):
    """A RACE PAPER, or, where there is no RACE, a FREE PAPER."""
    rows = events(store, program)
    ahead = next_ahead(rows)
    racing = races(store, program)
    if racing:
        one, other = racing[0]
        paths = [path for path, noted in diagram(store, program)]
        return ("race", one, other, cut_around(ahead, paths, one, other))
    return ("free", tuple([chain_of(ahead, pair) for pair in meetings(rows)]))
