"""EVENTS of the PLAIN RUN, and which of them are AHEAD of which."""

from forkjoins.diagram import diagram
from forkjoins.errors import NoRevision
from forkjoins.kinds import is_number, is_numbers

# The words of the STEPS that look at a CELL or turn it.
ACCESSES = ("read", "has", "write", "add", "put", "take", "row")


def events_among(noted):
    """Of what a DIAGRAM notes of a REVISION the EVENTS: all that has a CELL or a PATH."""
    return [event for event in noted if len(event) == 2 and event[1] is not None]


def events(store, program):
    """The EVENTS of all REVISIONS: rows (path, n, word, thing), rising."""
    return tuple([
        (path, number, word, thing)
        for path, noted in diagram(store, program)
        for number, (word, thing) in enumerate(events_among(noted))
    ])


def next_ahead(rows):
    """By the name of each EVENT the names of those that it is NEXT BEHIND."""
    forks = {thing: (path, number) for path, number, word, thing in rows if word == "fork"}
    lasts = {path: (path, number) for path, number, word, thing in rows}
    ahead = {}
    for path, number, word, thing in rows:
        names = []
        if number > 0:
            names.append((path, number - 1))
        elif path in forks:
            names.append(forks[path])
        if word == "join":
            names.append(lasts.get(thing, forks[thing]))
        ahead[(path, number)] = names
    return ahead


def is_name(ahead, thing):
    """Whether the thing, any, is the name of an EVENT."""
    if not isinstance(thing, tuple) or len(thing) != 2:
        return False
    # Looked at ahead of the look into the dict, for there True would be 1.
    return is_numbers(thing[0]) and is_number(thing[1]) and thing in ahead


def all_ahead(ahead, name):
    """The names of all EVENTS that are AHEAD of this one, each with one NEXT BEHIND it from which one comes here."""
    found = {}
    waiting = [name]
    while waiting:
        here = waiting.pop()
        for near in ahead[here]:
            if near not in found:
                found[near] = here
                waiting.append(near)
    return found


def comes_ahead(store, program, one, other):
    """Whether the EVENT of the one name, any thing, is AHEAD of that of the other; or NoRevision."""
    ahead = next_ahead(events(store, program))
    if not is_name(ahead, one):
        raise NoRevision(one)
    if not is_name(ahead, other):
        raise NoRevision(other)
    return one in all_ahead(ahead, other)
