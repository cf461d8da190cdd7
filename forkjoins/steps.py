"""Steps: who CAN step, who WAITS, and what comes of a step."""

from forkjoins.errors import NoStep
from forkjoins.revisions import Revision, Run, do_step
from forkjoins.rows import row_of
from forkjoins.segments import seen, tidied, with_rows
from forkjoins.states import HANDLES, LEFT, OWN, PATH, ROOT, SLOTS, TOLD, WORD, WRITTEN, rows_in_use
from forkjoins.sums import worth


def awaited(rows, row):
    """The PATH of whom a REVISION WAITS for; None where it doesn't WAIT."""
    if not row[LEFT] or row[LEFT][0][0] != "join":
        return None
    for name, path in row[HANDLES]:
        if name == row[LEFT][0][1] and row_of(rows, path)[WORD] == "runs":
            return path
    return None


def able(state):
    """The PATHS of those that CAN step, rising."""
    rows = state[1]
    return tuple([row[PATH] for row in rows if row[WORD] == "runs" and awaited(rows, row) is None])


def waiting(state):
    """Pairs of the PATH of one that WAITS and of whom it waits for, rising."""
    rows = state[1]
    pairs = [(row[PATH], awaited(rows, row)) for row in rows]
    return tuple([(path, other) for path, other in pairs if other is not None])


def revision_in(segments, row):
    """The REVISION of a row, as it stands there."""
    # Without a root its beginning is asked by nobody: what it has stands for that.
    begin = seen(segments, row[OWN] if row[ROOT] is None else row[ROOT])
    slots = {slot: number for slot, number in row[SLOTS]}
    handles = {name: path for name, path in row[HANDLES]}
    revision = Revision(row[PATH], row[LEFT], slots, handles, begin)
    revision.cells = list(seen(segments, row[OWN]))
    revision.written = {cell: True for cell in row[WRITTEN]}
    revision.told = list(row[TOLD])
    revision.way = "" if row[WORD] == "runs" else row[WORD]
    return revision


def forks_of(rows, path):
    """How many the REVISION of this PATH has forked."""
    return len([row for row in rows if row[PATH] != () and row[PATH][:-1] == path])


def run_in(state):
    """The run as it stands in a STATE, with all that one of its REVISIONS can look at."""
    run = Run(state[0])
    for row in rows_in_use(state):
        run.revisions[row[PATH]] = revision_in(state[2], row)
    return run


def step_in(run, revision):
    """The next STEP of the REVISION is done in the run: the rows of the CELLS that it wrote by this."""
    written = revision.written
    revision.written = {}
    do_step(run, revision)
    fresh = tuple([(cell, revision.cells[cell]) for cell in sorted(revision.written)])
    revision.written = {cell: True for cell in list(written) + list(revision.written)}
    return fresh


def number_moved(done, slots, revision):
    """What a MOVE tells of a STEP with a NUMBER; slots are those ahead of it, the REVISION is as it is behind."""
    word = done[0]
    if word == "tell":
        return revision.told[-1]
    if word in ("read", "has", "let"):
        return revision.slots[done[1]]
    if word in ("write", "add"):
        return revision.cells[done[1]]
    if word == "if":
        return 0 if worth(done[1], slots=slots) > 0 else 1
    return worth(done[2], slots=slots)


def what_moved(done, slots, revision):
    """What a MOVE tells of a STEP."""
    word = done[0]
    if word == "fail":
        return None
    if word not in ("fork", "join"):
        return number_moved(done, slots, revision)
    path = revision.events[-1][1]
    if word == "fork" or path is None:
        return path
    return (path, revision.slots[done[2]])


def row_from(revision, own, root):
    """The row of a REVISION."""
    word = revision.way
    if word == "":
        word = "runs" if revision.left else "ended"
    handles = tuple(sorted(revision.handles.items())) if word == "runs" else ()
    slots = tuple(sorted(revision.slots.items()))
    told = tuple(revision.told)
    written = tuple(sorted(revision.written))
    return (revision.path, word, tuple(revision.left[::-1]), slots, handles, told, written, own, root)


def with_row(rows, row):
    """The rows with this one, in the place of that of its PATH, where there is one."""
    others = [other for other in rows if other[PATH] != row[PATH]]
    # As no PATH is there twice nothing but PATHS is compared.
    return tuple(sorted([*others, row]))


def forked(state, row, run, path):
    """The STATE behind a "fork" by the REVISION of this row, not yet TIDIED; path is that of the new one."""
    kinds, rows, segments, made = state
    forker = row_from(run.revisions[row[PATH]], made, row[ROOT])
    newer = row_from(run.revisions[path], made + 1, row[OWN])
    below = ((made, row[OWN], ()), (made + 1, row[OWN], ()))
    return (kinds, with_row(with_row(rows, forker), newer), segments + below, made + 2)


def wrote(state, row, run, fresh):
    """The STATE behind another STEP by the REVISION of this row, not yet TIDIED; fresh are the rows that it wrote."""
    kinds, rows, segments, made = state
    behind = row_from(run.revisions[row[PATH]], row[OWN], row[ROOT])
    return (kinds, with_row(rows, behind), with_rows(segments, row[OWN], fresh), made)


def tidied_row(row, held):
    """The row without what nobody needs."""
    if row[PATH] in held:
        return row
    through = row[WORD] != "runs"
    own = None if through and row[PATH] != () else row[OWN]
    return row[:OWN] + (own, None)


def tidy(state):
    """The STATE, all TIDIED."""
    kinds, rows, segments, made = state
    # Who is THROUGH has no handles, so all that there are hold.
    held = [path for row in rows for name, path in row[HANDLES]]
    kept = tuple([tidied_row(row, held) for row in rows])
    needed = [number for row in kept for number in row[OWN:]]
    return (kinds, kept, tidied(segments, needed), made)


def ask_step(rows, row):
    """Refuses a REVISION that can't step."""
    if row[WORD] != "runs":
        raise NoStep("through")
    if awaited(rows, row) is not None:
        raise NoStep("waits")


def step(state, path):
    """The STATE behind the step of this REVISION, and the MOVE; or NoRevision, NoStep, the path any thing."""
    row = row_of(state[1], path)
    ask_step(state[1], row)
    run = run_in(state)
    revision = run.revisions[row[PATH]]
    revision.forks = forks_of(state[1], row[PATH])
    fresh = step_in(run, revision)
    done = row[LEFT][0]
    what = what_moved(done, row[SLOTS], revision)
    behind = forked(state, row, run, what) if done[0] == "fork" else wrote(state, row, run, fresh)
    return (tidy(behind), (row[PATH], done[0], what))
