"""The DIAGRAM of a PLAIN RUN."""

from forkjoins.revisions import revisions_of


def diagram(store, program):
    """Pairs of the PATH and the events of each REVISION, rising by PATHS."""
    return tuple([(revision.path, tuple(revision.events)) for revision in revisions_of(store, program)])
