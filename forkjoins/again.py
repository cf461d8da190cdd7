"""Run again: who has to, and why, when a PROGRAM is changed late."""

from forkjoins.plain import plain_run
from forkjoins.revisions import revisions_of


def looks_of(store, program):
    """By the PATH of each REVISION of the PLAIN RUN its PROGRAM and its reads, rising."""
    return {
        revision.path: (revision.program, sorted(revision.reads)) for revision in revisions_of(store, program)
    }


def is_kept(elder, newer, path):
    """Whether the REVISION of the newer run is KEPT; elder and newer are the looks_of both runs."""
    return path in elder and elder[path] == newer[path]


def reasons_of(elder, newer, path):
    """All REASONS of a REVISION that is run AGAIN."""
    if path not in elder:
        return [("new",)]
    if elder[path][0] != newer[path][0]:
        return [("program",)]
    # There is one: up to the first look that is another one both did the same.
    return [("read", entry) for entry in elder[path][1] if entry not in newer[path][1]]


def run_again(store, elder, newer):
    """The RUN ROWS of the newer PROGRAM, and pairs (path, REASON) of all that are run AGAIN, rising."""
    before = looks_of(store, elder)
    now = looks_of(store, newer)
    again = [(path, reasons_of(before, now, path)[0]) for path in now if not is_kept(before, now, path)]
    return (plain_run(store, newer), tuple(again))


def gone(store, elder, newer):
    """The PATHS that the elder run has and the newer one hasn't, rising."""
    now = looks_of(store, newer)
    return tuple([path for path in looks_of(store, elder) if path not in now])
