"""PLAIN HANDS: a PROGRAM on one STORE that all share, by a SCHEDULE."""

from forkjoins.errors import NoRevision, NoStep
from forkjoins.events import ACCESSES
from forkjoins.kinds import is_numbers
from forkjoins.revisions import Revision, Run, do_step, finish, start
from forkjoins.stores import kinds_of, values_of


def do_next(hands, hand):
    """The next STEP of a hand is done, on the CELLS that all share."""
    do_step(hands, hand)
    # What a hand wrote all have already: with nothing WRITTEN of its own nothing of it is MERGED by a "join".
    hand.written = {}
    for other in hands.busy:
        other.cells = hand.cells


def stands(hand):
    """Whether a hand STANDS at an ACCESS."""
    return len(hand.left) > 0 and hand.left[-1][0] in ACCESSES


def awaited_by(hand):
    """The PATH of the hand whose "join" comes next; None where none does."""
    if not hand.left or hand.left[-1][0] != "join":
        return None
    return hand.handles.get(hand.left[-1][1])


def is_free(hands, hand):
    """Whether a hand goes on by itself: it neither STANDS nor waits, and isn't THROUGH."""
    path = awaited_by(hand)
    if path is not None:
        return hands.revisions[path].way != ""
    return len(hand.left) > 0 and not stands(hand)


def go_on(hands):
    """All that are busy go on by themselves; so do those that they fork, and those that waited for them."""
    while hands.busy:
        hand = hands.busy.pop()
        while is_free(hands, hand):
            do_next(hands, hand)
        if not hand.left:
            finish(hands, hand)
            hands.busy.extend([other for other in hands.revisions.values() if awaited_by(other) == hand.path])


def hands_of(store, program):
    """The hands at the beginning: each STANDS, waits or is THROUGH."""
    hands = Run(kinds_of(store))
    start(hands, Revision((), program, {}, {}, values_of(store)))
    go_on(hands)
    return hands


def standing(hands):
    """The PATHS of those that STAND, rising."""
    return [path for path in sorted(hands.revisions) if stands(hands.revisions[path])]


def do_access(hands, path):
    """The ACCESS at which the hand of this PATH STANDS is done; then it goes on."""
    hand = hands.revisions[path]
    do_next(hands, hand)
    hands.busy.append(hand)
    go_on(hands)


def end_now(hands):
    """The END, where nobody STANDS."""
    rows = []
    for path in sorted(hands.revisions):
        hand = hands.revisions[path]
        rows.append((path, hand.way, tuple(hand.told)))
    return (tuple(hands.revisions[()].cells), tuple(rows))


def woven(store, program, *, pace=()):
    """The SCHEDULE of a PACE; behind its last NUMBER always the first one steps."""
    hands = hands_of(store, program)
    schedule = []
    while paths := standing(hands):
        number = pace[len(schedule)] if len(schedule) < len(pace) else 0
        path = paths[number % len(paths)]
        do_access(hands, path)
        schedule.append(path)
    return tuple(schedule)


def end_of(store, program, schedule):
    """The END of a SCHEDULE, any tuple; or NoRevision, NoStep."""
    hands = hands_of(store, program)
    for path in schedule:
        # Looked at ahead of ==, for by that (True,) would be (1,).
        if not is_numbers(path) or path not in standing(hands):
            raise NoRevision(path)
        do_access(hands, path)
    if standing(hands):
        raise NoStep("early")
    return end_now(hands)
