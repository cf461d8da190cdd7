"""NUMBERS and WORDS, tuples that rise, and things that are the same."""

LETTERS = "abcdefghijklmnopqrstuvwxyz"
LONGEST = 8


def is_number(thing):
    """Whether the thing, any, is a NUMBER; a truth is none."""
    return isinstance(thing, int) and not isinstance(thing, bool)


def is_word(thing):
    """Whether the thing, any, is a WORD: one to eight small letters."""
    if not isinstance(thing, str) or not 1 <= len(thing) <= LONGEST:
        return False
    return all([letter in LETTERS for letter in thing])


def is_numbers(thing):
    """Whether the thing, any, is a tuple, perhaps (), of NUMBERS."""
    return isinstance(thing, tuple) and all([is_number(part) for part in thing])


def rises(things):
    """Whether each of the things, all of one kind, is above the one ahead of it."""
    return all([low < high for low, high in zip(things, things[1:])])


def is_same(known, thing):
    """Whether the thing, any, is the known one, which is made of NUMBERS, texts, None and tuples; True is no 1."""
    if not isinstance(known, tuple):
        return known == thing and not isinstance(thing, bool)
    if not isinstance(thing, tuple) or len(thing) != len(known):
        return False
    return all([is_same(inner, part) for inner, part in zip(known, thing)])
