"""Small DIAGRAMS, and a second telling of their POINTS and LINKS, for tests."""

import random

from forkjoins.diagram import diagram
from tests.drawing import drawn_program, drawn_store

STORE = (("plain", 5), ("sum", 1))
TELL = ("tell", ("num", 1))


def fork(name, *program, names=()):
    return ("fork", name, program, names)


def points_of(drawn):
    return [(path, place) for path, events in drawn for place in range(len(events) + 1)]


def links_in(drawn):
    """All pairs of POINTS, the one LINKING to the other."""
    pairs = set()
    many = {path: len(events) for path, events in drawn}
    for path, events in drawn:
        for place, event in enumerate(events):
            pairs.add(((path, place), (path, place + 1)))
            if event[0] == "fork":
                pairs.add(((path, place), (event[1], 0)))
            if event[0] == "join" and event[1] is not None:
                pairs.add(((event[1], many[event[1]]), (path, place)))
    return pairs


def ahead_in(drawn):
    """All pairs of POINTS, the one AHEAD of the other: LINKS are put behind LINKS till no pair is new."""
    pairs = links_in(drawn)
    while True:
        more = {(one, far) for one, near in pairs for begin, far in pairs if near == begin} - pairs
        if not more:
            return pairs
        pairs |= more


def small_diagrams():
    chance = random.Random(14)
    programs = [
        (), (TELL,), (fork("f"), ("join", "f", "a")), (fork("f", TELL), TELL, ("join", "f", "a"), TELL),
        (fork("f", TELL), fork("g", TELL), ("join", "g", "a"), ("join", "f", "a")),
        (fork("f", TELL), fork("g", ("join", "f", "a"), TELL, names=("f",)), TELL),
        (fork("f", TELL, fork("g", TELL), ("fail",), TELL), ("join", "f", "a"), ("join", "h", "a"), TELL),
        (fork("f"), fork("f"), TELL),
    ]
    rows = [(STORE, program) for program in programs]
    for _ in range(25):
        store = drawn_store(chance)
        rows.append((store, drawn_program(chance, store, 2, 4)))
    return [diagram(store, program) for store, program in rows]
