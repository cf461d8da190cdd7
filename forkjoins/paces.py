"""PACES: who steps next, again and again."""

from forkjoins.steps import able, step

LIMIT = 400


def run(state, pace, *, most=LIMIT):
    """The STATE behind the first NUMBERS of a PACE, most at the most, and the LOG."""
    log = []
    for number in pace[:most]:
        paths = able(state)
        if not paths:
            break
        state, move = step(state, paths[number % len(paths)])
        log.append(move)
    return (state, tuple(log))


def finished(state, *, by=(0,)):
    """The STATE behind going on by a PACE, round and round, till nobody CAN, and the LOG."""
    pace = by if by else (0,)
    log = ()
    while able(state):
        state, more = run(state, pace, most=len(pace))
        log = log + more
    return (state, log)
