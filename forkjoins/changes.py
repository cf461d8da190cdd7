"""What the five words that write do to a CELL."""

from forkjoins.errors import NoStep

WRITING = ("write", "add", "put", "take", "row")
ONLY = {"has": "set", "put": "set", "take": "set", "add": "sum", "row": "list"}


def suits(word, kind):
    """Whether a STEP of this word, one with a CELL, GOES WITH a CELL of this KIND."""
    if word == "write":
        return kind not in ("set", "list")
    return word not in ONLY or kind == ONLY[word]


def without_number(has, number):
    """The rising tuple that hasn't the number."""
    return tuple([held for held in has if held != number])


def with_number(has, number):
    """The rising tuple that has the number, too."""
    others = without_number(has, number)
    return tuple(sorted([*others, number]))


def changed(kind, has, *, word, number):
    """What a CELL HAS behind this word with this WORTH; or NoStep."""
    if word not in WRITING or not suits(word, kind):
        raise NoStep(word)
    if word == "write":
        return number
    if word == "add":
        return has + number
    if word == "put":
        return with_number(has, number)
    if word == "take":
        return without_number(has, number)
    return (*has, number)
