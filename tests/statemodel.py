"""A second telling of the document's [37] to [41], for tests: plain copies, with SEGMENTS kept beside them.

What a REVISION HAS and began with is kept in copies of its own; the SEGMENTS are a tree of dicts, and
what is spare in it goes in an order that chance says.
"""

from forkjoins.readings import read_program
from forkjoins.states import begun
from forkjoins.steps import step
from tests.model import amount_of, joined_value


def state_behind(store, text, *paths):
    """The STATE behind the steps of these PATHS, from the beginning on."""
    state = begun(store, read_program(text))
    for path in paths:
        state, _ = step(state, path)
    return state


class Copy:
    def __init__(self, path, program, slots, handles, values, own, root):
        self.path, self.left, self.slots, self.handles = path, program, slots, handles
        self.begin, self.values = tuple(values), list(values)
        self.told, self.written, self.own, self.root = [], set(), own, root
        self.word, self.born = "runs", 0
        self.settle()

    def settle(self):
        if self.word == "runs" and not self.left:
            self.word = "ended"
        if self.word != "runs":
            self.left, self.handles = (), {}

    def row(self):
        return (self.path, self.word, self.left, tuple(sorted(self.slots.items())), tuple(sorted(self.handles.items())),
                tuple(self.told), tuple(sorted(self.written)), self.own, self.root)


class Copies:
    def __init__(self, store, program, chance):
        self.kinds, self.chance, self.made = tuple(kind for kind, _ in store), chance, 1
        values = [has for _, has in store]
        self.above, self.rows = {0: None}, {0: dict(enumerate(values))}
        self.all = {(): Copy((), program, {}, {}, values, 0, None)}

    def state(self):
        segments = tuple((number, self.above[number], tuple(sorted(self.rows[number].items()))) for number in sorted(self.rows))
        return (self.kinds, tuple(self.all[path].row() for path in sorted(self.all)), segments, self.made)

    def waits(self, path):
        one = self.all[path]
        if one.word != "runs" or one.left[0][0] != "join" or one.left[0][1] not in one.handles:
            return None
        whom = one.handles[one.left[0][1]]
        return whom if self.all[whom].word == "runs" else None

    def able(self):
        return tuple(path for path in sorted(self.all) if self.all[path].word == "runs" and self.waits(path) is None)

    def waiting(self):
        return tuple((path, self.waits(path)) for path in sorted(self.all) if self.waits(path) is not None)

    def step(self, path):
        one = self.all[path]
        (word, *rest), one.left = one.left[0], one.left[1:]
        what = getattr(self, "do_" + word)(one, *rest)
        one.settle()
        self.tidy()
        return (path, word, what)

    def write(self, one, cell, has):
        one.values[cell] = has
        one.written.add(cell)
        self.rows[one.own][cell] = has

    def give(self, one, slot, number):
        one.slots[slot] = number
        return number

    def do_read(self, one, slot, cell):
        has = one.values[cell]
        return self.give(one, slot, len(has) if isinstance(has, tuple) else has)

    def do_has(self, one, slot, cell, amount):
        return self.give(one, slot, int(amount_of(amount, one.slots, []) in one.values[cell]))

    def do_write(self, one, cell, amount):
        self.write(one, cell, amount_of(amount, one.slots, []))
        return one.values[cell]

    def do_add(self, one, cell, amount):
        self.write(one, cell, one.values[cell] + amount_of(amount, one.slots, []))
        return one.values[cell]

    def do_put(self, one, cell, amount):
        number = amount_of(amount, one.slots, [])
        self.write(one, cell, tuple(sorted({*one.values[cell], number})))
        return number

    def do_take(self, one, cell, amount):
        number = amount_of(amount, one.slots, [])
        self.write(one, cell, tuple(sorted({*one.values[cell]} - {number})))
        return number

    def do_row(self, one, cell, amount):
        number = amount_of(amount, one.slots, [])
        self.write(one, cell, one.values[cell] + (number,))
        return number

    def do_let(self, one, slot, amount):
        return self.give(one, slot, amount_of(amount, one.slots, []))

    def do_tell(self, one, amount):
        one.told.append(amount_of(amount, one.slots, []))
        return one.told[-1]

    def do_if(self, one, amount, first, second):
        place = 0 if amount_of(amount, one.slots, []) > 0 else 1
        one.left = (first, second)[place] + one.left
        return place

    def do_fail(self, one):
        one.word = "failed"

    def do_fork(self, one, name, program, names):
        path, root = one.path + (one.born,), one.own
        handed = {each: one.handles.pop(each) for each in names if each in one.handles}
        one.born += 1
        one.handles[name] = path
        for number in (self.made, self.made + 1):
            self.above[number], self.rows[number] = root, {}
        one.own = self.made
        self.all[path] = Copy(path, program, dict(one.slots), handed, one.values, self.made + 1, root)
        self.made += 2
        return path

    def do_join(self, one, name, slot):
        if name not in one.handles:
            one.word = "failed"
            return None
        theirs = self.all[one.handles.pop(name)]
        for cell in sorted(theirs.written) if theirs.word == "ended" else ():
            self.write(one, cell, joined_value(self.kinds[cell], theirs.begin[cell], one.values[cell], theirs.values[cell]))
        return (theirs.path, self.give(one, slot, int(theirs.word == "ended")))

    def held(self):
        return {path for one in self.all.values() if one.word == "runs" for path in one.handles.values()}

    def tidy(self):
        held = self.held()
        for path, one in self.all.items():
            if path not in held:
                one.root = None
                if one.word != "runs" and path != ():
                    one.own = None
        while spare := self.spare():
            self.go(self.chance.choice(spare))

    def below(self, number):
        return [lower for lower in self.above if self.above[lower] == number]

    def spare(self):
        needed = {number for one in self.all.values() for number in (one.own, one.root)}
        return [number for number in self.above if number not in needed and len(self.below(number)) < 2]

    def go(self, number):
        for lower in self.below(number):
            self.rows[lower] = {**self.rows[number], **self.rows[lower]}
            self.above[lower] = self.above[number]
        del self.rows[number], self.above[number]
