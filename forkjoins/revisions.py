"""The helper of all that runs: REVISIONS, what their STEPS do, and the PLAIN RUN with all that is noted of it."""

from forkjoins.changes import changed
from forkjoins.kinds import is_number
from forkjoins.merges import merged
from forkjoins.programs import parts_of
from forkjoins.stores import kinds_of, values_of
from forkjoins.sums import slots_of, worth


class Revision:
    """A REVISION: what it began with, what it has, and what is noted of it on its way."""

    def __init__(self, path, program, slots, handles, begin):
        self.path = path
        self.program = program
        # The next STEP is the last one, so that the PROGRAM of an "if" is laid over what stands behind it.
        self.left = list(reversed(program))
        self.slots = slots
        self.given = {}
        self.handles = handles
        self.begin = begin
        self.cells = list(begin)
        self.written = {}
        self.told = []
        self.reads = {}
        self.events = []
        self.forks = 0
        self.joins = 0
        self.way = ""


class Run:
    """A run: its REVISIONS by their PATHS, the PATHS to which a handle was LOST, and who goes on in the PLAIN RUN."""

    def __init__(self, kinds):
        self.kinds = kinds
        self.revisions = {}
        self.lost = []
        self.busy = []


def note(revision, entry):
    """Notes what a REVISION LOOKED AT, each once."""
    revision.reads[entry] = True


def look_at(revision, cell):
    """What the CELL HAS; noted where the REVISION hasn't WRITTEN it."""
    if cell not in revision.written:
        note(revision, ("cell", cell, revision.begin[cell]))
    return revision.cells[cell]


def worth_for(revision, amount):
    """The WORTH of a SUM; its SLOTS are noted to which the REVISION hasn't given anything."""
    for slot in slots_of(amount):
        if slot not in revision.given:
            note(revision, ("slot", slot, revision.slots.get(slot, 0)))
    return worth(amount, slots=tuple(sorted(revision.slots.items())))


def give(revision, slot, number):
    """The slot has the number from now on."""
    revision.slots[slot] = number
    revision.given[slot] = True


def set_cell(revision, cell, has):
    """The CELL has this from now on, and is WRITTEN."""
    revision.cells[cell] = has
    revision.written[cell] = True


def fail(revision):
    """The REVISION FAILS: nothing of it is left."""
    revision.way = "failed"
    revision.left.clear()


def do_read(run, revision, step):
    """For "read": the slot has the NUMBER, or how many there are."""
    has = look_at(revision, step[2])
    give(revision, step[1], has if is_number(has) else len(has))


def do_has(run, revision, step):
    """For "has": the slot has whether the WORTH is in the "set"."""
    number = worth_for(revision, step[3])
    give(revision, step[1], 1 if number in look_at(revision, step[2]) else 0)


def do_write(run, revision, step):
    """For "write", which lays over what the CELL has and so doesn't look at it."""
    set_cell(revision, step[1], worth_for(revision, step[2]))


def do_change(run, revision, step):
    """For "add", "put", "take" and "row", which hang on what the CELL has."""
    word, cell, amount = step
    number = worth_for(revision, amount)
    set_cell(revision, cell, changed(run.kinds[cell], look_at(revision, cell), word=word, number=number))


def do_let(run, revision, step):
    """For "let": the WORTH is given to the slot."""
    give(revision, step[1], worth_for(revision, step[2]))


def do_tell(run, revision, step):
    """For "tell": the WORTH is told."""
    revision.told.append(worth_for(revision, step[1]))


def do_if(run, revision, step):
    """For "if": the first PROGRAM or the second, and then what stands behind."""
    chosen = step[2] if worth_for(revision, step[1]) > 0 else step[3]
    revision.left.extend(list(reversed(chosen)))


def hand_over(revision, names):
    """Those handles that go to the new REVISION; the forker has them no more."""
    handed = {}
    for name in names:
        path = revision.handles.get(name)
        note(revision, ("give", revision.forks, name, path))
        if path is not None:
            handed[name] = path
            del revision.handles[name]
    return handed


def next_path(revision):
    """The PATH of the one that the REVISION forks next."""
    return (*revision.path, revision.forks)


def do_fork(run, revision, step):
    """For "fork": a new REVISION; it is run whole ahead of the forker's next STEP."""
    word, name, program, names = step
    path = next_path(revision)
    handed = hand_over(revision, names)
    if name in revision.handles:
        run.lost.append(revision.handles[name])
    revision.handles[name] = path
    revision.forks += 1
    start(run, Revision(path, program, dict(revision.slots), handed, tuple(revision.cells)))


def merges_of(joined):
    """The (cell, base, theirs) of all CELLS that one that is THROUGH has WRITTEN; () of a FAILED one."""
    if joined.way == "failed":
        return ()
    return tuple([(cell, joined.begin[cell], joined.cells[cell]) for cell in sorted(joined.written)])


def merge_into(run, revision, merges):
    """The CELLS are MERGED into those of the REVISION."""
    for cell, base, theirs in merges:
        kind = run.kinds[cell]
        # What a "plain" CELL had is laid over: it isn't looked at.
        mine = revision.cells[cell] if kind == "plain" else look_at(revision, cell)
        set_cell(revision, cell, merged(kind, base=base, mine=mine, theirs=theirs))


def do_join(run, revision, step):
    """For "join": all that the joined one has WRITTEN is MERGED; without a handle the REVISION FAILS."""
    word, name, slot = step
    number = revision.joins
    revision.joins += 1
    if name not in revision.handles:
        note(revision, ("join", number, name, None, "", ()))
        fail(revision)
        return
    path = revision.handles.pop(name)
    joined = run.revisions[path]
    merges = merges_of(joined)
    note(revision, ("join", number, name, path, joined.way, merges))
    merge_into(run, revision, merges)
    give(revision, slot, 0 if joined.way == "failed" else 1)


def do_fail(run, revision, step):
    """For "fail": the REVISION FAILS."""
    fail(revision)


DEEDS = {
    "read": do_read,
    "has": do_has,
    "write": do_write,
    "add": do_change,
    "put": do_change,
    "take": do_change,
    "row": do_change,
    "let": do_let,
    "tell": do_tell,
    "if": do_if,
    "fork": do_fork,
    "join": do_join,
    "fail": do_fail,
}


def event_of(revision, step):
    """The event of a STEP that the REVISION comes to."""
    if step[0] == "fork":
        return ("fork", next_path(revision))
    if step[0] == "join":
        return ("join", revision.handles.get(step[1]))
    return tuple([step[0]] + parts_of(step, "cell"))


def do_step(run, revision):
    """The next STEP of the REVISION is done."""
    step = revision.left.pop()
    revision.events.append(event_of(revision, step))
    deed = DEEDS[step[0]]
    deed(run, revision, step)


def start(run, revision):
    """The REVISION goes on ahead of all others."""
    run.revisions[revision.path] = revision
    run.busy.append(revision)


def finish(run, revision):
    """The REVISION is THROUGH: handles that it still has are LOST."""
    if revision.way != "failed":
        revision.way = "ended"
    run.lost.extend(list(revision.handles.values()))


def run_of(store, program):
    """The PLAIN RUN of a PROGRAM on a STORE."""
    run = Run(kinds_of(store))
    start(run, Revision((), program, {}, {}, values_of(store)))
    while run.busy:
        revision = run.busy[-1]
        if revision.left:
            do_step(run, revision)
        else:
            run.busy.pop()
            finish(run, revision)
    return run


def revisions_of(store, program):
    """The REVISIONS of the PLAIN RUN, rising by their PATHS."""
    run = run_of(store, program)
    return [run.revisions[path] for path in sorted(run.revisions)]
