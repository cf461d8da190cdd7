"""The checker of AGAIN PAPERS."""

from forkjoins.again import is_kept, looks_of, reasons_of
from forkjoins.errors import NoPaper
from forkjoins.kinds import is_numbers, is_same


def is_pair(thing):
    """Whether the thing, any, is a pair of a tuple of NUMBERS and a tuple."""
    return isinstance(thing, tuple) and len(thing) == 2 and is_numbers(thing[0]) and isinstance(thing[1], tuple)


def ask_path(now, paper, place):
    """Refuses a pair whose PATH isn't one of the newer run, or not above the one ahead."""
    path = paper[place][0]
    if path not in now or (place > 0 and paper[place - 1][0] >= path):
        raise NoPaper("path", place)


def ask_reason(before, now, pair, place):
    """Refuses a pair of one that is KEPT, or with no REASON of it."""
    path, reason = pair
    if is_kept(before, now, path):
        raise NoPaper("kept", place)
    if not any([is_same(known, reason) for known in reasons_of(before, now, path)]):
        raise NoPaper("reason", place)


def ask_all(again, paper):
    """Refuses a paper that lacks one of those that are run AGAIN."""
    for path in again:
        if path not in [known for known, reason in paper]:
            raise NoPaper("few", path)


def lets_again(store, elder, newer, thing):
    """How many are KEPT, where the thing, any, is an AGAIN PAPER; or NoPaper."""
    if not isinstance(thing, tuple) or not all([is_pair(pair) for pair in thing]):
        raise NoPaper("shape", -1)
    before = looks_of(store, elder)
    now = looks_of(store, newer)
    for place, pair in enumerate(thing):
        ask_path(now, thing, place)
        ask_reason(before, now, pair, place)
    ask_all([path for path in now if not is_kept(before, now, path)], thing)
    return len([path for path in now if is_kept(before, now, path)])
