"""SEGMENTS: what is SEEN at each of them."""


def seen_from(segments, number, cell):
    """The number of the SEGMENT from which a CELL is SEEN at the SEGMENT of this number."""
    by_number = {own: (above, rows) for own, above, rows in segments}
    above, rows = by_number[number]
    while cell not in [held for held, has in rows]:
        number = above
        above, rows = by_number[number]
    return number


def seen(segments, number):
    """What all CELLS have at the SEGMENT of this number."""
    by_number = {own: (above, rows) for own, above, rows in segments}
    found = {}
    while number is not None:
        number, rows = by_number[number]
        for cell, has in rows:
            # What stands nearest below was met first, and stays.
            found.setdefault(cell, has)
    return tuple([found[cell] for cell in sorted(found)])
