"""The checker of ORDER PAPERS."""

from forkjoins.errors import NoPaper
from forkjoins.kinds import is_number, is_numbers
from forkjoins.orders import bare_alike, both_orders, has_less, is_own, numbers_alike, numbers_of, parted_within
from forkjoins.stores import can_have

FARTHEST = 2


def is_join(kind, thing):
    """Whether the thing, any, is a JOIN of the KIND."""
    if not isinstance(thing, tuple) or len(thing) != 2:
        return False
    return can_have(kind, thing[0]) and can_have(kind, thing[1])


def is_parting(kind, thing):
    """Whether the thing, any, is something that a CELL of the KIND CAN HAVE and two JOINS of it."""
    if not isinstance(thing, tuple) or len(thing) != 3:
        return False
    return can_have(kind, thing[0]) and is_join(kind, thing[1]) and is_join(kind, thing[2])


def has_shape(kind, thing):
    """Whether the thing, any, is a pair of a word and what has to stand behind it."""
    if not isinstance(thing, tuple) or len(thing) != 2:
        return False
    word, what = thing
    if word == "alike":
        return what is None or (is_numbers(what) and len(what) == 4)
    if word == "parted":
        return is_parting(kind, what)
    return word == "within" and is_number(what) and 0 <= what <= FARTHEST


def may_stand(kind, word, same_base):
    """Whether a paper of this word may be one of this KIND."""
    if word == "alike":
        return bare_alike(kind, same_base) or (is_own(kind) and not has_less(kind))
    return word == "parted" or has_less(kind)


def look_at_alike(kind, numbers, same_base):
    """Refuses NUMBERS that aren't those of the KIND, or that don't tell that all is alike."""
    if not is_own(kind):
        if numbers is not None:
            raise NoPaper("numbers", -1)
        return
    if numbers != numbers_of(kind[1]):
        raise NoPaper("numbers", -1)
    if not numbers_alike(numbers, same_base):
        raise NoPaper("orders", -1)


def look_at_parted(kind, parting, same_base):
    """Refuses JOINS that aren't of like base where they have to be, or that aren't PARTED."""
    mine, one, other = parting
    if same_base and one[0] != other[0]:
        raise NoPaper("base", -1)
    first, second = both_orders(kind, mine=mine, one=one, other=other)
    if first == second:
        raise NoPaper("same", -1)


def lets_order(kind, thing, *, same_base=False):
    """The word of the thing, any, where it is an ORDER PAPER of the KIND; or NoPaper."""
    if not has_shape(kind, thing):
        raise NoPaper("shape", -1)
    word, what = thing
    if not may_stand(kind, word, same_base):
        raise NoPaper("kind", -1)
    if word == "alike":
        look_at_alike(kind, what, same_base)
    elif word == "parted":
        look_at_parted(kind, what, same_base)
    elif parted_within(kind, what, same_base) is not None:
        raise NoPaper("parts", -1)
    return word
