"""A second telling of the document's [4], [5], [26] and [29], for tests: copies, and any pace.

Each REVISION is a generator that stops ahead of each STEP; chance says who goes on. So what it
comes to is compared with the PLAIN RUN, as (M1) has it.
"""


class Failed(Exception):
    pass


def amount_of(amount, slots, seen):
    word, *rest = amount
    if word == "num":
        return rest[0]
    if word == "slot":
        seen.append(rest[0])
        return slots.get(rest[0], 0)
    one, other = [amount_of(part, slots, seen) for part in rest]
    return {"plus": one + other, "minus": one - other, "less": int(one < other)}[word]


def joined_value(kind, base, mine, theirs):
    if kind == "set":
        return tuple(sorted((set(mine) | set(theirs) - set(base)) - (set(base) - set(theirs))))
    if kind == "list":
        return mine + tuple(x for at, x in enumerate(theirs) if at >= len(base))
    if isinstance(kind, tuple):
        return amount_of(kind[1], {"base": base, "mine": mine, "theirs": theirs}, [])
    return {"plain": theirs, "sum": mine + theirs - base, "most": sorted((mine, theirs))[1]}[kind]


class Hand:
    def __init__(self, world, path, program, slots, handles, values):
        self.world, self.path, self.program = world, path, program
        self.slots, self.handles, self.begin, self.values = slots, handles, values, list(values)
        self.written, self.given, self.told, self.events = set(), set(), [], []
        self.reads, self.born, self.joins, self.way = set(), 0, 0, None
        self.waits = None
        self.going = self.goes()

    def can(self):
        return self.way is None and (self.waits is None or self.waits.way is not None)

    def goes(self):
        try:
            yield from self.steps(self.program)
            self.way = "ended"
        except Failed:
            self.way = "failed"
        self.world.lost += self.handles.values()

    def steps(self, program):
        for step in program:
            yield
            word, *rest = step
            if word == "if":
                self.events.append(("if",))
                yield from self.steps(rest[1] if self.amount(rest[0]) > 0 else rest[2])
            elif word == "join":
                yield from self.join(*rest)
            else:
                getattr(self, "do_" + word)(*rest)

    def amount(self, amount):
        seen = []
        number = amount_of(amount, self.slots, seen)
        self.reads |= {("slot", slot, self.slots.get(slot, 0)) for slot in seen if slot not in self.given}
        return number

    def look(self, cell):
        if cell not in self.written:
            self.reads.add(("cell", cell, self.begin[cell]))

    def give(self, slot, number):
        self.slots[slot] = number
        self.given.add(slot)

    def put(self, word, cell, has):
        self.events.append((word, cell))
        self.values[cell] = has
        self.written.add(cell)

    def do_read(self, slot, cell):
        self.events.append(("read", cell))
        self.look(cell)
        has = self.values[cell]
        self.give(slot, len(has) if isinstance(has, tuple) else has)

    def do_has(self, slot, cell, amount):
        self.events.append(("has", cell))
        self.look(cell)
        self.give(slot, int(self.amount(amount) in self.values[cell]))

    def do_write(self, cell, amount):
        self.put("write", cell, self.amount(amount))

    def do_add(self, cell, amount):
        self.look(cell)
        self.put("add", cell, self.values[cell] + self.amount(amount))

    def do_put(self, cell, amount):
        self.look(cell)
        self.put("put", cell, tuple(sorted({*self.values[cell], self.amount(amount)})))

    def do_take(self, cell, amount):
        self.look(cell)
        self.put("take", cell, tuple(sorted({*self.values[cell]} - {self.amount(amount)})))

    def do_row(self, cell, amount):
        self.look(cell)
        self.put("row", cell, self.values[cell] + (self.amount(amount),))

    def do_let(self, slot, amount):
        self.events.append(("let",))
        self.give(slot, self.amount(amount))

    def do_tell(self, amount):
        self.events.append(("tell",))
        self.told.append(self.amount(amount))

    def do_fail(self):
        self.events.append(("fail",))
        raise Failed

    def do_fork(self, name, program, names):
        path = self.path + (self.born,)
        self.reads |= {("give", self.born, each, self.handles.get(each)) for each in names}
        handed = {each: self.handles.pop(each) for each in names if each in self.handles}
        self.world.lost += [self.handles[name]] if name in self.handles else []
        self.handles[name] = path
        self.born += 1
        self.events.append(("fork", path))
        self.world.hands[path] = Hand(self.world, path, program, dict(self.slots), handed, tuple(self.values))

    def join(self, name, slot):
        path = self.handles.get(name)
        if path is not None and self.world.hands[path].way is None:
            self.waits = self.world.hands[path]
            yield
        self.events.append(("join", path))
        if path is None:
            self.reads.add(("join", self.joins, name, None, "", ()))
            raise Failed
        del self.handles[name]
        theirs = self.world.hands[path]
        cells = sorted(theirs.written) if theirs.way == "ended" else []
        merges = tuple((cell, theirs.begin[cell], theirs.values[cell]) for cell in cells)
        self.reads.add(("join", self.joins, name, path, theirs.way, merges))
        self.joins += 1
        for cell, base, has in merges:
            if self.world.kinds[cell] != "plain":
                self.look(cell)
            self.values[cell] = joined_value(self.world.kinds[cell], base, self.values[cell], has)
            self.written.add(cell)
        self.give(slot, int(theirs.way == "ended"))

    def row(self):
        reads = tuple(sorted(self.reads))
        if self.way == "failed":
            return (self.path, "failed", (), reads, (), self.begin, ())
        written = tuple((cell, self.values[cell]) for cell in sorted(self.written))
        return (self.path, "ended", tuple(self.told), reads, written, self.begin, tuple(self.values))


class World:
    def __init__(self, store, program, chance):
        self.kinds = [kind for kind, _ in store]
        self.hands, self.lost = {}, []
        self.hands[()] = Hand(self, (), program, {}, {}, tuple(has for _, has in store))
        # How likely the elder ones are: from nearly always the youngest to nearly always the eldest.
        lean = chance.choice((0.02, 0.5, 1, 2, 50))
        while any(hand.way is None for hand in self.hands.values()):
            busy = [path for path in sorted(self.hands) if self.hands[path].can()]
            path = chance.choices(busy, [lean ** -at for at in range(len(busy))])[0]
            next(self.hands[path].going, None)

    def told(self, of):
        return tuple(of(self.hands[path]) for path in sorted(self.hands))
