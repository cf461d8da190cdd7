"""The checker of PLACES PAPERS."""

from forkjoins.errors import NoPaper
from forkjoins.kinds import is_numbers
from forkjoins.segments import seen_from
from forkjoins.states import OWN, PATH, ROOT, rows_in_use


def is_triple(thing):
    """Whether the thing, any, is a triple of tuples of NUMBERS, the last of them perhaps None."""
    if not isinstance(thing, tuple) or len(thing) != 3:
        return False
    return is_numbers(thing[0]) and is_numbers(thing[1]) and (thing[2] is None or is_numbers(thing[2]))


def is_many(state, number, places):
    """Whether there are as many places as CELLS, or both are None."""
    if number is None or places is None:
        return number is None and places is None
    return len(places) == len(state[0])


def ask_places(state, number, places, word, which):
    """Refuses the first CELL that isn't SEEN from its place at the SEGMENT of this number."""
    for cell, place in enumerate(places):
        if seen_from(state[2], number, cell) != place:
            raise NoPaper(word, (which, cell))


def ask_triple(state, row, triple, which):
    """Refuses a triple, the one of this number, that isn't that of the row."""
    path, places, bases = triple
    if not is_many(state, row[OWN], places) or not is_many(state, row[ROOT], bases):
        raise NoPaper("many", which)
    ask_places(state, row[OWN], places, "place", which)
    if bases is not None:
        ask_places(state, row[ROOT], bases, "base", which)


def lets_places(state, thing):
    """How many triples the thing, any, has, where it is the PLACES PAPER of the STATE; or NoPaper."""
    if not isinstance(thing, tuple) or not all([is_triple(triple) for triple in thing]):
        raise NoPaper("shape", -1)
    rows = rows_in_use(state)
    if [triple[0] for triple in thing] != [row[PATH] for row in rows]:
        raise NoPaper("paths", -1)
    for which, (row, triple) in enumerate(zip(rows, thing)):
        ask_triple(state, row, triple, which)
    return len(thing)
