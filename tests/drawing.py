"""Drawn SUMS, STORES and PROGRAMS: by a chance that begins alike each time."""

SLOTS = ("a", "b", "c")
NAMES = ("f", "g", "h")
OWNS = (
    ("own", ("plus", ("slot", "mine"), ("minus", ("slot", "theirs"), ("slot", "base")))),
    ("own", ("plus", ("slot", "mine"), ("less", ("slot", "base"), ("slot", "theirs")))),
    ("own", ("minus", ("slot", "theirs"), ("slot", "mine"))),
)
BY_KIND = {"sum": ("write", "add"), "set": ("put", "take"), "list": ("row",)}


def drawn_sum(chance, deep=3, slots=SLOTS, words=("plus", "minus", "less")):
    word = chance.choice(("num", "slot") + words) if deep else chance.choice(("num", "slot"))
    if word == "num":
        return ("num", chance.randint(-3, 3))
    if word == "slot":
        return ("slot", chance.choice(slots))
    return (word, drawn_sum(chance, deep - 1, slots, words), drawn_sum(chance, deep - 1, slots, words))


def drawn_has(chance, kind):
    if kind == "set":
        return tuple(sorted(chance.sample(range(-3, 4), chance.randint(0, 3))))
    if kind == "list":
        return tuple(chance.randint(-3, 3) for _ in range(chance.randint(0, 3)))
    return chance.randint(-3, 3)


def drawn_store(chance, many=4):
    kinds = [chance.choice(("plain", "sum", "most", "set", "list") + OWNS) for _ in range(many)]
    return tuple((kind, drawn_has(chance, kind)) for kind in kinds)


def drawn_cell_step(chance, store):
    cell = chance.randrange(len(store))
    kind = store[cell][0]
    if chance.random() < 0.35:
        return ("read", chance.choice(SLOTS), cell)
    if kind == "set" and chance.random() < 0.3:
        return ("has", chance.choice(SLOTS), cell, drawn_sum(chance, 1))
    return (chance.choice(BY_KIND.get(kind, ("write",))), cell, drawn_sum(chance, 2))


def drawn_fork(chance, store, deep, held):
    """A "fork" that gives over some of the NAMES that are held there, or of others."""
    names = tuple(sorted(chance.sample(NAMES, chance.choice((0, 0, 1, 2)))))
    name = chance.choice(NAMES)
    inner = drawn_program(chance, store, deep - 1, 6, [each for each in names if each in held])
    held[:] = [each for each in held if each not in names + (name,)] + [name]
    return ("fork", name, inner, names)


def drawn_join(chance, held):
    """A "join", mostly of a NAME that is held there."""
    name = chance.choice(held) if held and chance.random() < 0.97 else chance.choice(NAMES)
    held[:] = [each for each in held if each != name]
    return ("join", name, chance.choice(SLOTS))


def drawn_step(chance, store, deep, held):
    many = {"cell": 9, "let": 1, "tell": 2, "fail": 0.2, "join": 6 if held else 0.3}
    many.update({"if": 2, "fork": 5} if deep else {})
    word = chance.choices(tuple(many), tuple(many.values()))[0]
    if word == "cell":
        return drawn_cell_step(chance, store)
    if word == "let":
        return ("let", chance.choice(SLOTS), drawn_sum(chance, 2))
    if word == "tell":
        return ("tell", drawn_sum(chance, 2))
    if word == "if":
        inner = [drawn_program(chance, store, deep - 1, 3) for _ in range(2)]
        return ("if", drawn_sum(chance, 2), *inner)
    if word == "fork":
        return drawn_fork(chance, store, deep, held)
    return drawn_join(chance, held) if word == "join" else ("fail",)


def drawn_program(chance, store, deep=3, most=6, held=()):
    held = list(held)
    return tuple(drawn_step(chance, store, deep, held) for _ in range(chance.randint(0, most)))
