"""The checker of RACE PAPERS and FREE PAPERS."""

from forkjoins.diagram import diagram
from forkjoins.errors import NoPaper
from forkjoins.events import ACCESSES, events, events_among, is_name, next_ahead
from forkjoins.kinds import is_number, is_numbers
from forkjoins.races import meetings


def is_access(rows, ahead, thing):
    """Whether the thing, any, is the name of an ACCESS."""
    return is_name(ahead, thing) and thing in [row[:2] for row in rows if row[2] in ACCESSES]


def is_cut_pair(thing):
    """Whether the thing, any, is a pair of a tuple of NUMBERS and a NUMBER."""
    return isinstance(thing, tuple) and len(thing) == 2 and is_numbers(thing[0]) and is_number(thing[1])


def is_cut(full, thing):
    """Whether the thing, any, is a cut by kind; full has all PATHS, rising, with how many EVENTS each one has."""
    if not isinstance(thing, tuple) or not all([is_cut_pair(pair) for pair in thing]):
        return False
    if [path for path, many in thing] != [path for path, many in full]:
        return False
    return all([0 <= pair[1] <= most for pair, (path, most) in zip(thing, full)])


def is_closed(ahead, inside, name):
    """Whether all that the EVENT is NEXT BEHIND of is in the cut; inside has its NUMBERS by the PATHS."""
    return all([number < inside[path] for path, number in ahead[name]])


def ask_cut(ahead, cut, names):
    """Refuses a cut with an EVENT that is NEXT BEHIND one outside; then where one of the names is in it, or is so."""
    inside = {path: many for path, many in cut}
    for place, (path, many) in enumerate(cut):
        if not all([is_closed(ahead, inside, (path, number)) for number in range(many)]):
            raise NoPaper("open", place)
    for name in names:
        if name[1] < inside[name[0]] or not is_closed(ahead, inside, name):
            raise NoPaper("next", -1)


def ask_race(drawn, rows, paper):
    """Refuses what is no RACE PAPER of the DIAGRAM and its EVENTS."""
    word, one, other, cut = paper
    ahead = next_ahead(rows)
    if not is_access(rows, ahead, one):
        raise NoPaper("one", -1)
    if not is_access(rows, ahead, other):
        raise NoPaper("other", -1)
    # Pairs that MEET have the lesser name first: so one turned round isn't among them.
    if (one, other) not in meetings(rows):
        raise NoPaper("meet", -1)
    if not is_cut([(path, len(events_among(noted))) for path, noted in drawn], cut):
        raise NoPaper("cut", -1)
    ask_cut(ahead, cut, (one, other))


def is_chain(ahead, pair, thing):
    """Whether the thing, any, leads from one of both to the other one, each name NEXT BEHIND the one ahead."""
    if not isinstance(thing, tuple) or thing == () or not all([is_name(ahead, name) for name in thing]):
        return False
    if (thing[0], thing[-1]) not in (pair, pair[::-1]):
        return False
    return all([near in ahead[name] for near, name in zip(thing, thing[1:])])


def ask_free(rows, chains):
    """Refuses chains that aren't those of all pairs that MEET."""
    ahead = next_ahead(rows)
    pairs = meetings(rows)
    if len(chains) != len(pairs):
        raise NoPaper("many", -1)
    for place, (pair, chain) in enumerate(zip(pairs, chains)):
        if not is_chain(ahead, pair, chain):
            raise NoPaper("chain", place)


def has_shape(thing, word, many):
    """Whether the thing, any, is a tuple of so many with this word first."""
    return isinstance(thing, tuple) and len(thing) == many and thing[0] == word


def lets_races(store, program, thing):
    """True where the thing, any, is a FREE PAPER, False where it is a RACE PAPER; or NoPaper."""
    rows = events(store, program)
    if has_shape(thing, "race", 4):
        ask_race(diagram(store, program), rows, thing)
        return False
    if has_shape(thing, "free", 2) and isinstance(thing[1], tuple):
        ask_free(rows, thing[1])
        return True
    raise NoPaper("shape", -1)
