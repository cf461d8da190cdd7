"""A second telling of [54] and [55], for tests: each single STEP of each hand at any time.

Here a "let" or a "fork" waits for its turn as an ACCESS does. So where all turns are taken, in all
orders, it shows too that a hand which goes on by itself leaves out no END and no SCHEDULE.
"""

import copy

from tests.model import amount_of

ACCESSES = ("read", "has", "write", "add", "put", "take", "row")


class Hand:
    def __init__(self, program, slots, handles):
        self.left, self.slots, self.handles = list(program), slots, handles
        self.told, self.born, self.way = [], 0, None if program else "ended"


class Hands:
    def __init__(self, store, program):
        self.values = [has for _, has in store]
        self.hands = {(): Hand(program, {}, {})}

    def turns(self):
        return [path for path in sorted(self.hands) if self.can(self.hands[path])]

    def can(self, hand):
        if hand.way is not None:
            return False
        word, *rest = hand.left[0]
        joined = self.hands.get(hand.handles.get(rest[0])) if word == "join" else None
        return joined is None or joined.way is not None

    def turn(self, path):
        """One STEP; whether it was an ACCESS."""
        hand = self.hands[path]
        word, *rest = hand.left.pop(0)
        getattr(self, "do_" + word)(hand, path, *rest)
        if hand.way is None and not hand.left:
            hand.way = "ended"
        return word in ACCESSES

    def amount(self, hand, amount):
        return amount_of(amount, hand.slots, [])

    def do_read(self, hand, path, slot, cell):
        has = self.values[cell]
        hand.slots[slot] = len(has) if isinstance(has, tuple) else has

    def do_has(self, hand, path, slot, cell, amount):
        hand.slots[slot] = int(self.amount(hand, amount) in self.values[cell])

    def do_write(self, hand, path, cell, amount):
        self.values[cell] = self.amount(hand, amount)

    def do_add(self, hand, path, cell, amount):
        self.values[cell] += self.amount(hand, amount)

    def do_put(self, hand, path, cell, amount):
        self.values[cell] = tuple(sorted({*self.values[cell], self.amount(hand, amount)}))

    def do_take(self, hand, path, cell, amount):
        self.values[cell] = tuple(sorted({*self.values[cell]} - {self.amount(hand, amount)}))

    def do_row(self, hand, path, cell, amount):
        self.values[cell] += (self.amount(hand, amount),)

    def do_let(self, hand, path, slot, amount):
        hand.slots[slot] = self.amount(hand, amount)

    def do_tell(self, hand, path, amount):
        hand.told.append(self.amount(hand, amount))

    def do_if(self, hand, path, amount, one, other):
        hand.left[:0] = one if self.amount(hand, amount) > 0 else other

    def do_fork(self, hand, path, name, program, names):
        handed = {each: hand.handles.pop(each) for each in names if each in hand.handles}
        hand.handles[name] = path + (hand.born,)
        hand.born += 1
        self.hands[hand.handles[name]] = Hand(program, dict(hand.slots), handed)

    def do_join(self, hand, path, name, slot):
        if name not in hand.handles:
            self.do_fail(hand, path)
        else:
            hand.slots[slot] = int(self.hands[hand.handles.pop(name)].way == "ended")

    def do_fail(self, hand, path):
        hand.way, hand.left = "failed", []

    def end(self):
        return (tuple(self.values), tuple((path, hand.way, tuple(hand.told)) for path, hand in sorted(self.hands.items())))

    def key(self):
        rows = [(path, hand.left, sorted(hand.slots.items()), sorted(hand.handles.items()), hand.told, hand.way)
                for path, hand in sorted(self.hands.items())]
        return repr((self.values, rows))


def all_turns(store, program, most=4000):
    """All pairs of a SCHEDULE and its END, by all orders of all turns; None where these are too many."""
    known = {}

    def from_here(hands):
        key = hands.key()
        if key not in known:
            found = set()
            turns = hands.turns()
            for path in turns:
                others = copy.deepcopy(hands)
                ahead = (path,) if others.turn(path) else ()
                found |= {(ahead + schedule, end) for schedule, end in from_here(others)}
                if len(found) > most or len(known) > most:
                    raise OverflowError
            known[key] = found if turns else {((), hands.end())}
        return known[key]

    try:
        return from_here(Hands(store, program))
    except OverflowError:
        return None


def by_chance(store, program, chance):
    """A SCHEDULE and its END, by turns of chance."""
    hands, schedule = Hands(store, program), []
    while turns := hands.turns():
        path = chance.choice(turns)
        schedule += [path] if hands.turn(path) else []
    return tuple(schedule), hands.end()
