"""STORES, VALUES, PATHS and WAYS written as texts."""

from forkjoins.kinds import is_number
from forkjoins.texts import sum_words


def shown_has(has):
    """The text of what a CELL HAS, the void text of none."""
    if is_number(has):
        return str(has)
    return ",".join([str(number) for number in has])


def shown_kind(kind):
    """The text of a KIND."""
    if isinstance(kind, str):
        return kind
    inner = ",".join(sum_words(kind[1]))
    return f"own({inner})"


def shown_store(store):
    """The text of a STORE: a word for each CELL."""
    return " ".join([f"{shown_kind(kind)}:{shown_has(has)}" for kind, has in store])


def shown_values(values):
    """The text of VALUES: a word for each CELL, - for what is void."""
    return " ".join([shown_has(has) or "-" for has in values])


def shown_path(path):
    """The word of a PATH or a WAY, a dot alone for ()."""
    return ".".join([str(number) for number in path]) or "."
