"""SEGMENTS: what is SEEN at each of them."""


def seen_from(segments, number, cell):
    """The number of the SEGMENT from which a CELL is SEEN at the SEGMENT of this number."""
    by_number = {own: (above, rows) for own, above, rows in segments}
    above, rows = by_number[number]
    while cell not in [held for held, has in rows]:
        number = above
        above, rows = by_number[number]
    return number


def seen(segments, number):
    """What all CELLS have at the SEGMENT of this number."""
    by_number = {own: (above, rows) for own, above, rows in segments}
    found = {}
    while number is not None:
        number, rows = by_number[number]
        for cell, has in rows:
            # What stands nearest below was met first, and stays.
            found.setdefault(cell, has)
    return tuple([found[cell] for cell in sorted(found)])


def laid_over(rows, fresh):
    """The rows with fresh ones, each in the place of the row of its CELL, where there is one."""
    by_cell = {cell: has for cell, has in [*rows, *fresh]}
    return tuple(sorted(by_cell.items()))


def with_rows(segments, number, fresh):
    """The SEGMENTS with fresh rows in the one of this number."""
    return tuple([
        (own, above, laid_over(rows, fresh) if own == number else rows) for own, above, rows in segments
    ])


def spare(segments, needed):
    """A SEGMENT that isn't needed and has at most one straight below; None where there is none."""
    uppers = [above for own, above, rows in segments]
    for segment in segments:
        if segment[0] not in needed and uppers.count(segment[0]) <= 1:
            return segment
    return None


def without(segments, going):
    """The SEGMENTS without this one, which is PUT TOGETHER with the one straight below, where there is one."""
    number, upper, kept = going
    left = []
    for own, above, rows in segments:
        if above == number:
            left.append((own, upper, laid_over(kept, rows)))
        elif own != number:
            left.append((own, above, rows))
    return tuple(left)


def tidied(segments, needed):
    """The SEGMENTS without all that is spare; needed has the numbers that are somebody's."""
    going = spare(segments, needed)
    while going is not None:
        segments = without(segments, going)
        going = spare(segments, needed)
    return segments
