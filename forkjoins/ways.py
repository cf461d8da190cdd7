"""WAYS into a PROGRAM: to the PROGRAMS and STEPS within it."""

from forkjoins.errors import NoStep
from forkjoins.kinds import is_numbers
from forkjoins.programs import FORMS, is_program, parts_of


def ways(program):
    """All WAYS of a PROGRAM, rising."""
    found = []
    waiting = [((), program)]
    while waiting:
        way, inner = waiting.pop()
        found.append(way)
        for number, step in enumerate(inner):
            found.append((*way, number))
            for which, within in enumerate(parts_of(step, "program")):
                waiting.append(((*way, number, which), within))
    return tuple(sorted(found))


def places_within(here, depth):
    """The places in a tuple, so deep in a PROGRAM, to which a WAY can lead: of all STEPS, or of PROGRAMS in a STEP."""
    if depth % 2 == 0:
        return list(range(len(here)))
    return [1 + place for place, part in enumerate(FORMS[here[0]]) if part == "program"]


def places_of(program, way):
    """The places, from tuple to tuple, that a WAY, any thing, goes by; or NoStep."""
    if not is_numbers(way):
        raise NoStep("way")
    here = program
    places = []
    for depth, number in enumerate(way):
        choices = places_within(here, depth)
        if not 0 <= number < len(choices):
            raise NoStep("way")
        places.append(choices[number])
        here = here[choices[number]]
    return places


def at_way(program, way):
    """The STEP or the PROGRAM that a WAY, any thing, leads to; or NoStep."""
    here = program
    for place in places_of(program, way):
        here = here[place]
    return here


def laid_in(here, places, thing):
    """The tuple in which the thing stands where the places lead to."""
    if not places:
        return thing
    first, *rest = places
    return here[:first] + (laid_in(here[first], rest, thing),) + here[first + 1:]


def put_at(program, way, thing):
    """The PROGRAM in which what a WAY leads to is the thing, both any; or NoStep."""
    newer = laid_in(program, places_of(program, way), thing)
    if not is_program(newer):
        raise NoStep("kind")
    return newer
