"""Things of all kinds that tests hand in, and a look at what kind each told thing is."""

from forkjoins.errors import JoinError

GREAT = 10 ** 199 + 7
SUM_FORMS = (
    ("num", 3),
    ("slot", "a"),
    ("plus", ("num", 1), ("slot", "a")),
    ("minus", ("num", 1), ("slot", "a")),
    ("less", ("num", 1), ("slot", "a")),
)
OWN = ("own", ("plus", ("slot", "mine"), ("minus", ("slot", "theirs"), ("slot", "base"))))
OWN_LESS = ("own", ("less", ("slot", "mine"), ("slot", "theirs")))
BARE = ("plain", "sum", "most", "set", "list")
KINDS = BARE + (OWN, OWN_LESS)


def nested(kind, deep=40):
    """Tuples or lists, so deep within one another."""
    thing = kind()
    for _ in range(deep - 1):
        thing = kind([thing])
    return thing


def deep_sum(leaf, deep=40):
    """SUMS within one another, the leaf within all."""
    for _ in range(deep - 1):
        leaf = ("plus", ("num", 1), leaf)
    return leaf


def any_things():
    """Things that are neither NUMBERS, WORDS, SUMS, KINDS, STORES, STEPS nor void tuples."""
    return [
        None, True, False, "", "A", "a b", "a1", "a\n", "abcdefghi", " ~!", "x" * 4000 + " ",
        [], [1], ["num", 3], ("num",), ("num", True), ("num", "a"), ("num", 1, 2), ("slot", 1),
        ("slot", "A"), ("slot", ""), (None,), (True,), ("own",), (("own",),), ((), 1), ((), ()),
        nested(tuple), nested(list), nested(tuple, 60), [nested(tuple, 39)], (nested(list, 39),),
        tuple([None] * 4999), [[True] * 70] * 70,
    ]


def is_plain_told(thing):
    """Whether a told thing is made of just int, str, None, bool and tuples of these."""
    if type(thing) is tuple:
        return all(is_plain_told(part) for part in thing)
    return thing is None or type(thing) in (int, str, bool)


def same(one, other):
    """Whether two things are equal and of the same kinds throughout: True is no 1 here."""
    if type(one) is not type(other):
        return False
    if type(one) in (tuple, list):
        return len(one) == len(other) and all(same(a, b) for a, b in zip(one, other))
    return one == other


def refusal_of(function, *args, **named):
    """The name of the refusal and its fields; None where what is asked is told."""
    try:
        function(*args, **named)
    except JoinError as refusal:
        return (type(refusal).__name__, *vars(refusal).values())
    return None
