"""MERGED: what a CELL of the joiner HAS behind a "join"."""

from forkjoins.sums import worth


def merged_set(base, mine, theirs):
    """Mine with what theirs has gained over base, without what it has lost."""
    kept = [number for number in mine if number in theirs or number not in base]
    gained = [number for number in theirs if number not in base and number not in mine]
    return tuple(sorted(kept + gained))


def merged(kind, *, base, mine, theirs):
    """What MERGED comes to, by the KIND."""
    if kind == "plain":
        return theirs
    if kind == "sum":
        return mine + theirs - base
    if kind == "most":
        return max(mine, theirs)
    if kind == "set":
        return merged_set(base, mine, theirs)
    if kind == "list":
        return mine + theirs[len(base):]
    return worth(kind[1], slots=(("base", base), ("mine", mine), ("theirs", theirs)))


def merged_cells(kinds, written, *, base, mine, theirs):
    """The VALUES in which each CELL of written is MERGED, each other one as in mine."""
    values = list(mine)
    for cell in written:
        values[cell] = merged(kinds[cell], base=base[cell], mine=mine[cell], theirs=theirs[cell])
    return tuple(values)
