"""PROGRAMS written as texts."""

from forkjoins.programs import FORMS

SIGNS = {"plus": "+", "minus": "-", "less": "<"}


def sum_words(amount):
    """The words of a SUM, in order."""
    if amount[0] in SIGNS:
        return [SIGNS[amount[0]]] + sum_words(amount[1]) + sum_words(amount[2])
    return [str(amount[1])]


def part_words(part, thing):
    """The words of what stands in a STEP as this part."""
    if part == "sum":
        return sum_words(thing)
    if part == "program":
        return ["{"] + program_words(thing) + ["}"]
    if part == "names":
        return [str(len(thing)), *thing]
    return [str(thing)]


def program_words(program):
    """The words of a PROGRAM, in order."""
    words = []
    for step in program:
        words.append(step[0])
        for part, thing in zip(FORMS[step[0]], step[1:]):
            words.extend(part_words(part, thing))
    return words


def shown_program(program):
    """The text of a PROGRAM."""
    return " ".join(program_words(program))
