"""[21], [22]: the checker of ORDER PAPERS, each word of refusal in its order."""

import copy
import random
import unittest

from forkjoins.errors import NoPaper
from forkjoins.orderchecker import lets_order
from forkjoins.orders import numbers_of, order_paper
from tests.drawing import drawn_sum
from tests.things import BARE, OWN, OWN_LESS, any_things, same

BASE, MINE, THEIRS = ("slot", "base"), ("slot", "mine"), ("slot", "theirs")
LAST = ("own", THEIRS)
BY_BASE = ("own", BASE)
NEVER = ("own", ("plus", MINE, ("less", BASE, THEIRS)))
FAR = ("own", ("less", ("num", 1), THEIRS))
BASE_LESS = ("own", ("less", BASE, ("num", 0)))


class Case(unittest.TestCase):
    def refused(self, word, kind, thing, **more):
        with self.assertRaises(NoPaper) as caught:
            lets_order(kind, thing, **more)
        self.assertEqual((caught.exception.word, caught.exception.at), (word, -1))

    def let(self, kind, thing, **more):
        told = lets_order(kind, thing, **more)
        self.assertEqual(told, thing[0])
        self.assertIs(type(told), str)


class LetBy(Case):
    def test_alike(self):
        self.let("sum", ("alike", None))
        self.let("most", ("alike", None), same_base=True)
        self.let("set", ("alike", None), same_base=True)
        self.let(OWN, ("alike", (-1, 1, 1, 0)))
        self.let(BY_BASE, ("alike", (1, 0, 0, 0)), same_base=True)
        self.let(("own", ("num", 4)), ("alike", (0, 0, 0, 4)))

    def test_parted(self):
        self.let("plain", ("parted", (7, (0, 1), (0, 2))))
        self.let("plain", ("parted", (7, (0, 1), (5, 2))))
        self.let("plain", ("parted", (7, (0, 1), (0, 2))), same_base=True)
        self.let("list", ("parted", ((), ((), (1,)), ((), (2,)))))
        self.let("set", ("parted", ((), ((), (1,)), ((1,), ()))))
        self.let(LAST, ("parted", (0, (0, 1), (0, 2))))
        self.let(OWN_LESS, ("parted", (0, (0, 1), (0, 0))))
        self.let(FAR, ("parted", (0, (0, 100), (0, -100))))

    def test_within(self):
        for reach in (0, 1, 2):
            self.let(NEVER, ("within", reach))
        self.let(FAR, ("within", 1))
        self.let(BASE_LESS, ("within", 2), same_base=True)


class Shape(Case):
    def test_no_pair(self):
        for thing in any_things() + [(), ("alike",), ("alike", None, None), ["alike", None], "alike", 1, (None, "alike")]:
            for kind in ("sum", "plain", "set", OWN, OWN_LESS):
                kept = copy.deepcopy(thing)
                self.refused("shape", kind, thing)
                self.assertTrue(same(thing, kept))

    def test_words(self):
        for word in ("", "Alike", "apart", "alike ", None, 1, True, ("alike",), ["alike"]):
            for what in (None, (0, 0, 0, 0), (0, (0, 1), (0, 2)), 1):
                self.refused("shape", "plain", (word, what))

    def test_alike(self):
        for what in ((), (0, 1, 0), (0, 1, 0, 0, 0), [0, 1, 0, 0], (0, True, 0, 0), (0, 1, 0, False), (0, 1, 0, None),
                     (0, 1, 0, "0"), True, False, 0, "", "None", ((0, 1, 0, 0),)):
            for kind in ("sum", "plain", OWN, OWN_LESS):
                self.refused("shape", kind, ("alike", what))
        self.refused("shape", ("own", MINE), ("alike", (0, True, 0, 0)))
        self.refused("shape", ("own", MINE), ("alike", (False, 1, 0, 0)))

    def test_parted(self):
        for what in (None, (), (7, (0, 1)), (7, (0, 1), (0, 2), (0, 3)), [7, (0, 1), (0, 2)], (7, [0, 1], (0, 2)),
                     (7, (0, 1), [0, 2]), (7, (0,), (0, 2)), (7, (0, 1, 1), (0, 2)), (7, (0, 1), (0,)), (7, (0, 1), (0, 2, 2)),
                     (True, (0, 1), (0, 2)), (7, (False, 1), (0, 2)), (7, (0, True), (0, 2)), (7, (0, 1), (False, 2)),
                     (7, (0, 2), (0, True)), ((7,), (0, 1), (0, 2)), (7, ((), 1), (0, 2)), (7, (0, 1), (0, (2,))),
                     (None, (0, 1), (0, 2)), (7, None, (0, 2)), (7, (0, 1), None), (7, 1, 2), 7):
            self.refused("shape", "plain", ("parted", what))
            self.refused("shape", LAST, ("parted", what))

    def test_parted_of_sets_and_lists(self):
        for what in ((0, ((), (1,)), ((), (2,))), ((), ((), 1), ((), (2,))), ((), ((), [1]), ((), (2,))),
                     ([], ((), (1,)), ((), (2,))), ((), (0, (1,)), ((), (2,))), ((True,), ((), (1,)), ((), (2,)))):
            self.refused("shape", "list", ("parted", what))
            self.refused("shape", "set", ("parted", what))
        falls = (2, 1)
        for what in ((falls, ((), (1,)), ((1,), ())), ((), (falls, (1,)), ((1,), ())), ((), ((), (1,)), ((1,), falls))):
            self.refused("shape", "set", ("parted", what))
        self.let("list", ("parted", (falls, ((), (1,)), ((), falls))))

    def test_within(self):
        for what in (None, -1, 3, True, False, "1", (1,), [1], ()):
            self.refused("shape", NEVER, ("within", what))
            self.refused("shape", "plain", ("within", what))


class Kind(Case):
    def test_alike(self):
        for what in (None, (0, 1, 0, 0)):
            self.refused("kind", "plain", ("alike", what))
            self.refused("kind", "list", ("alike", what))
            self.refused("kind", "plain", ("alike", what), same_base=True)
            self.refused("kind", "list", ("alike", what), same_base=True)
            self.refused("kind", "set", ("alike", what))
            self.refused("kind", "set", ("alike", what), same_base=False)
            for kind in (NEVER, FAR, OWN_LESS):
                self.refused("kind", kind, ("alike", what))

    def test_within(self):
        for kind in BARE + (OWN, LAST):
            for same_base in (False, True):
                self.refused("kind", kind, ("within", 1), same_base=same_base)
                self.refused("kind", kind, ("within", 0), same_base=same_base)


class NumbersAndOrders(Case):
    def test_numbers(self):
        for what in (None, (-1, 1, 1, 1), (-1, 1, 0, 0), (1, 1, 1, 0), (0, 1, 0, 0)):
            self.refused("numbers", OWN, ("alike", what))
        for kind in ("sum", "most"):
            self.refused("numbers", kind, ("alike", (0, 1, 0, 0)))
        self.refused("numbers", "set", ("alike", (0, 1, 0, 0)), same_base=True)

    def test_numbers_ahead_of_orders(self):
        self.refused("numbers", LAST, ("alike", (0, 0, 2, 0)))
        self.refused("numbers", LAST, ("alike", None))

    def test_orders(self):
        self.refused("orders", LAST, ("alike", (0, 0, 1, 0)))
        self.refused("orders", LAST, ("alike", (0, 0, 1, 0)), same_base=True)
        self.refused("orders", BY_BASE, ("alike", (1, 0, 0, 0)))
        self.refused("orders", BY_BASE, ("alike", (1, 0, 0, 0)), same_base=False)
        self.refused("orders", ("own", ("plus", BASE, ("plus", MINE, MINE))), ("alike", (1, 2, 0, 0)))


class Parted(Case):
    def test_base(self):
        self.refused("base", "plain", ("parted", (0, (0, 1), (1, 2))), same_base=True)
        self.refused("base", "set", ("parted", ((), ((), (1,)), ((1,), ()))), same_base=True)
        self.refused("base", LAST, ("parted", (0, (0, 1), (1, 2))), same_base=True)

    def test_base_ahead_of_same(self):
        self.refused("base", "sum", ("parted", (0, (0, 1), (1, 2))), same_base=True)

    def test_same(self):
        self.refused("same", "sum", ("parted", (0, (0, 1), (1, 2))))
        self.refused("same", "sum", ("parted", (0, (0, 1), (0, 2))), same_base=True)
        self.refused("same", "most", ("parted", (0, (0, 1), (1, 2))))
        self.refused("same", "plain", ("parted", (0, (0, 1), (5, 1))))
        self.refused("same", "list", ("parted", ((), ((), (1,)), ((), (1,)))))
        self.refused("same", "set", ("parted", ((), ((), (1,)), ((), (2,)))))
        self.refused("same", OWN, ("parted", (0, (0, 1), (1, 2))))
        self.refused("same", NEVER, ("parted", (0, (0, 1), (1, 2))))


class Within(Case):
    def test_parts(self):
        self.refused("parts", FAR, ("within", 2))
        self.refused("parts", OWN_LESS, ("within", 1))
        self.refused("parts", BASE_LESS, ("within", 1))
        self.refused("parts", BASE_LESS, ("within", 1), same_base=False)
        self.let(OWN_LESS, ("within", 0))


class OneOfBoth(Case):
    def test_just_one_is_let_by(self):
        chance = random.Random(7)
        slots = ("base", "mine", "theirs", "a")
        kinds = BARE + tuple([("own", drawn_sum(chance, 2, slots, ("plus", "minus"))) for _ in range(150)])
        papers = [order_paper(kind, same_base=same_base) for kind in kinds for same_base in (False, True)]
        partings = {paper for paper in papers if paper[0] == "parted"}
        for kind in kinds:
            numbers = numbers_of(kind[1]) if isinstance(kind, tuple) else None
            for same_base in (False, True):
                let = {order_paper(kind, same_base=same_base)[0]}
                for thing in partings | {("alike", None), ("alike", numbers)}:
                    try:
                        let.add(lets_order(kind, thing, same_base=same_base))
                    except NoPaper:
                        pass
                self.assertEqual(len(let), 1)

    def test_by_names(self):
        self.assertEqual(lets_order(same_base=True, thing=("alike", None), kind="set"), "alike")
        with self.assertRaises(TypeError):
            lets_order("set", ("alike", None), True)
