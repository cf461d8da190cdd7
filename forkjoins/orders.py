"""Orders of JOINS: what comes of them, and papers that tell whether they are alike."""

from forkjoins.merges import merged

REACH = 1
SLOTS = ("base", "mine", "theirs")
PARTED = {
    "plain": (0, (0, 1), (0, 2)),
    "set": ((), ((), (1,)), ((1,), ())),
    "list": ((), ((), (1,)), ((), (2,))),
}


def numbers_of(amount):
    """The NUMBERS of a SUM: how often base, mine and theirs are in it, and what is added; None of a "less"."""
    word = amount[0]
    if word == "num":
        return (0, 0, 0, amount[1])
    if word == "slot":
        often = [1 if slot == amount[1] else 0 for slot in SLOTS]
        return (*often, 0)
    first = numbers_of(amount[1])
    second = numbers_of(amount[2])
    if word == "less" or first is None or second is None:
        return None
    sign = 1 if word == "plus" else -1
    return tuple([one + sign * other for one, other in zip(first, second)])


def is_own(kind):
    """Whether a KIND is ("own", SUM)."""
    return isinstance(kind, tuple)


def has_less(kind):
    """Whether a KIND is ("own", SUM) with a "less" in it."""
    return is_own(kind) and numbers_of(kind[1]) is None


def in_order(kind, *, mine, joins=()):
    """What comes of mine where the JOINS are MERGED, one behind another."""
    has = mine
    for base, theirs in joins:
        has = merged(kind, base=base, mine=has, theirs=theirs)
    return has


def both_orders(kind, *, mine, one, other):
    """What comes where the one JOIN goes first, and where the other does."""
    return (in_order(kind, mine=mine, joins=(one, other)), in_order(kind, mine=mine, joins=(other, one)))


def bare_alike(kind, same_base):
    """Whether a KIND that is no ("own", SUM) has no JOINS that are PARTED."""
    return kind in ("sum", "most") or (kind == "set" and same_base)


def numbers_alike(numbers, same_base):
    """Whether these NUMBERS of a SUM tell that no JOINS are PARTED."""
    by_base, by_mine, by_theirs, added = numbers
    # What both orders come to differs by (by_mine - 1) times how much more the one JOIN adds than the other.
    return by_mine == 1 or (by_theirs == 0 and (by_base == 0 or same_base))


def parted_within(kind, reach, same_base):
    """The first (mine, one, other) of NUMBERS from -reach to reach that is PARTED; None where none is."""
    span = list(range(-reach, reach + 1))
    joins = [(base, theirs) for base in span for theirs in span]
    # The lesser JOIN as the one is enough: who parts them parts them the other way about, too.
    pairs = [(one, other) for one in joins for other in joins if one < other]
    for one, other in pairs:
        if same_base and one[0] != other[0]:
            continue
        for mine in span:
            first, second = both_orders(kind, mine=mine, one=one, other=other)
            if first != second:
                return (mine, one, other)
    return None


def less_paper(kind, same_base, reach):
    """An ORDER PAPER of an ("own", SUM) with a "less"."""
    parted = parted_within(kind, reach, same_base)
    return ("within", reach) if parted is None else ("parted", parted)


def numbers_paper(numbers, same_base):
    """An ORDER PAPER of an ("own", SUM) that has these NUMBERS."""
    if numbers_alike(numbers, same_base):
        return ("alike", numbers)
    # The JOINS differ in theirs alone, where this tells, for then they are of like base.
    one = (1, 0) if numbers[2] == 0 else (0, 1)
    return ("parted", (0, one, (0, 0)))


def order_paper(kind, *, same_base=False, reach=REACH):
    """An ORDER PAPER of the KIND."""
    if has_less(kind):
        return less_paper(kind, same_base, reach)
    if is_own(kind):
        return numbers_paper(numbers_of(kind[1]), same_base)
    if bare_alike(kind, same_base):
        return ("alike", None)
    return ("parted", PARTED[kind])
