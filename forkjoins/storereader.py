"""STORES, PATHS and WAYS read from texts."""

from forkjoins.errors import NoText
from forkjoins.readings import Reader, next_word, read_over, read_sum, writes_natural, writes_number
from forkjoins.stores import BARE, can_have


def sum_of(words):
    """The SUM that all these words write; None where they write none."""
    reader = Reader(words, 0)
    try:
        amount = read_sum(reader, 0)
    except NoText:
        return None
    return amount if reader.place == len(words) else None


def kind_of(text):
    """The KIND that a text writes; None where it writes none."""
    if text in BARE:
        return text
    if not text.startswith("own(") or not text.endswith(")"):
        return None
    amount = sum_of(text.removeprefix("own(").removesuffix(")").split(","))
    return None if amount is None else ("own", amount)


def has_of(kind, text):
    """What a CELL of this KIND HAS by a text; None where it writes nothing such."""
    words = text.split(",") if text else []
    if not all([writes_number(word) for word in words]):
        return None
    numbers = tuple([int(word) for word in words])
    if kind in ("set", "list"):
        return numbers if can_have(kind, numbers) else None
    return numbers[0] if len(numbers) == 1 else None


def cell_row_of(word):
    """The pair of a KIND and what the CELL HAS that a word writes; None where it writes no CELL."""
    name, colon, text = word.partition(":")
    kind = kind_of(name)
    if colon == "" or kind is None:
        return None
    has = has_of(kind, text)
    return None if has is None else (kind, has)


def read_store(text):
    """The STORE that the text, any, writes; or NoText."""
    # Parted at each single blank: two in a row, or one at an end, give a void word, which writes no CELL.
    reader = Reader(text.split(" "), 0)
    store = []
    while reader.place < len(reader.words):
        row = cell_row_of(next_word(reader))
        read_over(reader, row is not None)
        store.append(row)
    return tuple(store)


def read_path(text):
    """The PATH or the WAY that the text, any, writes; or NoText."""
    if text == ".":
        return ()
    words = text.split(".")
    if not all([writes_natural(word) for word in words]):
        raise NoText(0, 0)
    return tuple([int(word) for word in words])
