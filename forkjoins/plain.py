"""The PLAIN RUN, told in rows."""

from forkjoins.revisions import revisions_of


def run_row(revision):
    """The RUN ROW of a REVISION that is THROUGH."""
    reads = tuple(sorted(revision.reads))
    if revision.way == "failed":
        return (revision.path, "failed", (), reads, (), revision.begin, ())
    written = tuple([(cell, revision.cells[cell]) for cell in sorted(revision.written)])
    end = tuple(revision.cells)
    return (revision.path, "ended", tuple(revision.told), reads, written, revision.begin, end)


def plain_run(store, program):
    """The RUN ROWS of the PLAIN RUN, rising by PATHS."""
    return tuple([run_row(revision) for revision in revisions_of(store, program)])


def programs_of(store, program):
    """Pairs of the PATH and the PROGRAM of each REVISION, rising by PATHS."""
    return tuple([(revision.path, revision.program) for revision in revisions_of(store, program)])
