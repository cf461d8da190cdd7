"""NUMBERS and WORDS, and tuples that rise."""

LETTERS = "abcdefghijklmnopqrstuvwxyz"
LONGEST = 8


def is_number(thing):
    """Whether the thing, any, is a NUMBER; a truth is none."""
    return isinstance(thing, int) and not isinstance(thing, bool)


def is_word(thing):
    """Whether the thing, any, is a WORD: one to eight small letters."""
    if not isinstance(thing, str) or not 1 <= len(thing) <= LONGEST:
        return False
    return all([letter in LETTERS for letter in thing])


def is_numbers(thing):
    """Whether the thing, any, is a tuple, perhaps (), of NUMBERS."""
    return isinstance(thing, tuple) and all([is_number(part) for part in thing])


def rises(things):
    """Whether each of the things, all of one kind, is above the one ahead of it."""
    return all([low < high for low, high in zip(things, things[1:])])
