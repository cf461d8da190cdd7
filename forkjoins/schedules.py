"""All SCHEDULES of PLAIN HANDS, and whether their ENDS are alike."""

from forkjoins.errors import NoStep
from forkjoins.revisions import Revision, Run
from forkjoins.threads import do_access, end_now, hands_of, standing

MOST = 3000


def copied_hand(hand, cells):
    """A hand that goes on like this one, on the CELLS of others."""
    other = Revision(hand.path, hand.program, dict(hand.slots), dict(hand.handles), hand.begin)
    other.left = list(hand.left)
    other.cells = cells
    other.told = list(hand.told)
    other.forks = hand.forks
    other.way = hand.way
    return other


def copied(hands):
    """The hands once more, so that these may go on otherwise."""
    cells = list(hands.revisions[()].cells)
    others = Run(hands.kinds)
    others.revisions = {path: copied_hand(hand, cells) for path, hand in hands.revisions.items()}
    return others


def ends_found(store, program, most):
    """By each END of all SCHEDULES one SCHEDULE that comes to it; or NoStep, where there are more than most."""
    found = {}
    many = 0
    waiting = [(hands_of(store, program), ())]
    while waiting:
        hands, schedule = waiting.pop()
        paths = standing(hands)
        for path in paths:
            others = copied(hands)
            do_access(others, path)
            waiting.append((others, (*schedule, path)))
        if not paths:
            many += 1
            found[end_now(hands)] = schedule
        if many > most:
            raise NoStep("many")
    return found


def all_ends(store, program, *, most=MOST):
    """All ENDS of all SCHEDULES, each once, rising; or NoStep."""
    return tuple(sorted(ends_found(store, program, most)))


def unlike(store, program, *, most=MOST):
    """Two SCHEDULES of which the ENDS are unlike; None where all are alike; or NoStep."""
    found = ends_found(store, program, most)
    if len(found) == 1:
        return None
    schedules = list(found.values())
    return (schedules[0], schedules[1])
