"""STEPS and PROGRAMS."""

from forkjoins.changes import WRITING, suits
from forkjoins.kinds import is_number, is_word, rises
from forkjoins.sums import is_sum

MOST_STEPS = 30
MOST_DEEP = 5
MOST_FORKS = 12
FORMS = {
    "read": ("slot", "cell"),
    "has": ("slot", "cell", "sum"),
    "write": ("cell", "sum"),
    "add": ("cell", "sum"),
    "put": ("cell", "sum"),
    "take": ("cell", "sum"),
    "row": ("cell", "sum"),
    "let": ("slot", "sum"),
    "tell": ("sum",),
    "if": ("sum", "program", "program"),
    "fork": ("name", "program", "names"),
    "join": ("name", "slot"),
    "fail": (),
}


def is_names(thing):
    """Whether the thing, any, is a rising tuple, perhaps (), of NAMES."""
    return isinstance(thing, tuple) and all([is_word(name) for name in thing]) and rises(thing)


def is_part(part, thing):
    """Whether the thing, any, can stand as this part of a STEP; a PROGRAM is looked at by another one."""
    if part in ("slot", "name"):
        return is_word(thing)
    if part == "cell":
        return is_number(thing) and thing >= 0
    if part == "sum":
        return is_sum(thing)
    if part == "names":
        return is_names(thing)
    return True


def has_form(thing):
    """Whether the thing, any, is a STEP, whatever stands in the place of the PROGRAMS in it."""
    if not isinstance(thing, tuple) or len(thing) == 0 or not isinstance(thing[0], str):
        return False
    if thing[0] not in FORMS or len(thing) != 1 + len(FORMS[thing[0]]):
        return False
    return all([is_part(part, inner) for part, inner in zip(FORMS[thing[0]], thing[1:])])


def parts_of(step, part):
    """What stands in a STEP as this part, in order."""
    return [inner for named, inner in zip(FORMS[step[0]], step[1:]) if named == part]


def is_program(thing):
    """Whether the thing, any, is a PROGRAM."""
    # A list of what is still to be looked at: no depth is too deep for it.
    waiting = [thing]
    while waiting:
        program = waiting.pop()
        if not isinstance(program, tuple) or not all([has_form(step) for step in program]):
            return False
        for step in program:
            waiting.extend(parts_of(step, "program"))
    return True


def is_step(thing):
    """Whether the thing, any, is a STEP."""
    return is_program((thing,))


def steps_within(program):
    """The STEPS of a PROGRAM with those within, in no order that is promised."""
    found = []
    waiting = [program]
    while waiting:
        inner = waiting.pop()
        found.extend(inner)
        for step in inner:
            waiting.extend(parts_of(step, "program"))
    return found


def step_goes_with(step, store):
    """Whether each CELL that stands in a STEP is one of the STORE, and of a KIND for its word."""
    return all([cell < len(store) and suits(step[0], store[cell][0]) for cell in parts_of(step, "cell")])


def goes_with(program, store):
    """Whether a PROGRAM GOES WITH a STORE."""
    return all([step_goes_with(step, store) for step in steps_within(program)])


def cells_of(program, *, written=False):
    """The CELLS that stand in a PROGRAM with all within, rising; in STEPS that write alone, where written."""
    steps = [step for step in steps_within(program) if not written or step[0] in WRITING]
    return tuple(sorted({cell for step in steps for cell in parts_of(step, "cell")}))


def deep_of(program):
    """How DEEP a PROGRAM is."""
    inner = [deep_of(within) for step in program for within in parts_of(step, "program")]
    return 1 + max(inner, default=0)


def fits(program, *, most=MOST_STEPS, deep=MOST_DEEP, forks=MOST_FORKS):
    """Whether a PROGRAM FITS these bounds."""
    steps = steps_within(program)
    forking = [step for step in steps if step[0] == "fork"]
    return len(steps) <= most and len(forking) <= forks and deep_of(program) <= deep
