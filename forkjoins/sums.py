"""SUMS: what they are, their WORTH, the SLOTS in them."""

from forkjoins.kinds import is_number, is_word

DOUBLE = ("plus", "minus", "less")


def is_double(thing):
    """Whether the thing, any, has the form of two SUMS under a word, whatever these two are."""
    return isinstance(thing, tuple) and len(thing) == 3 and thing[0] in DOUBLE


def is_single(thing):
    """Whether the thing, any, is a SUM with no other one in it."""
    if not isinstance(thing, tuple) or len(thing) != 2:
        return False
    if thing[0] == "num":
        return is_number(thing[1])
    return thing[0] == "slot" and is_word(thing[1])


def is_sum(thing):
    """Whether the thing, any, is a SUM."""
    # A list of what is still to be looked at: no depth is too deep for it.
    waiting = [thing]
    while waiting:
        amount = waiting.pop()
        if is_double(amount):
            waiting.extend(amount[1:])
        elif not is_single(amount):
            return False
    return True


def worth_by(amount, given):
    """The WORTH of a SUM by a dict of what the slots have."""
    word = amount[0]
    if word == "num":
        return amount[1]
    if word == "slot":
        return given.get(amount[1], 0)
    first = worth_by(amount[1], given)
    second = worth_by(amount[2], given)
    if word == "plus":
        return first + second
    if word == "minus":
        return first - second
    return 1 if first < second else 0


def worth(amount, *, slots=()):
    """The WORTH of a SUM by SLOT ROWS."""
    return worth_by(amount, {slot: number for slot, number in slots})


def singles_of(amount):
    """All SUMS with no other one in them that stand in a SUM."""
    found = []
    waiting = [amount]
    while waiting:
        part = waiting.pop()
        if part[0] in DOUBLE:
            waiting.extend(part[1:])
        else:
            found.append(part)
    return found


def slots_of(amount):
    """The SLOTS in a SUM, rising."""
    return tuple(sorted({part[1] for part in singles_of(amount) if part[0] == "slot"}))
