"""PROGRAMS with other SLOTS, NAMES and CELLS."""

from forkjoins.programs import FORMS
from forkjoins.sums import DOUBLE


def newer_of(pairs, thing):
    """What stands in the place of the thing, by PAIRS: itself where they have none for it."""
    by_elder = {elder: newer for elder, newer in pairs}
    return by_elder.get(thing, thing)


def renamed_sum(amount, slots):
    """The SUM with other SLOTS."""
    if amount[0] in DOUBLE:
        return (amount[0], renamed_sum(amount[1], slots), renamed_sum(amount[2], slots))
    if amount[0] == "slot":
        return ("slot", newer_of(slots, amount[1]))
    return amount


def renamed_part(part, thing, turned):
    """What stands in a STEP as this part, renamed; turned has the PAIRS by the parts that they are for."""
    if part == "sum":
        return renamed_sum(thing, turned["slot"])
    if part == "program":
        return renamed_program(thing, turned)
    if part == "names":
        return tuple(sorted({newer_of(turned["name"], name) for name in thing}))
    return newer_of(turned[part], thing)


def renamed_step(step, turned):
    """The STEP, all in it renamed."""
    parts = [renamed_part(part, thing, turned) for part, thing in zip(FORMS[step[0]], step[1:])]
    return (step[0], *parts)


def renamed_program(program, turned):
    """The PROGRAM, all in it renamed."""
    return tuple([renamed_step(step, turned) for step in program])


def renamed(program, *, slots=(), names=(), cells=()):
    """The PROGRAM in which, by these PAIRS, each elder one is its newer one, all at once."""
    return renamed_program(program, {"slot": slots, "name": names, "cell": cells})
