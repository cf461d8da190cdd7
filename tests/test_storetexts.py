"""[68]: STORES, VALUES, PATHS and WAYS as texts."""

import copy
import random
import unittest

from forkjoins.storereader import read_path, read_store
from forkjoins.stores import values_of
from forkjoins.storetexts import shown_path, shown_store, shown_values
from tests.drawing import drawn_has, drawn_store, drawn_sum
from tests.things import same

MINE, BASE, THEIRS = ("slot", "mine"), ("slot", "base"), ("slot", "theirs")
OWN = ("own", ("plus", MINE, ("minus", THEIRS, BASE)))


class Case(unittest.TestCase):
    def shown(self, function, thing, wanted):
        kept = copy.deepcopy(thing)
        told = function(thing)
        self.assertIs(type(told), str)
        self.assertEqual(told, wanted)
        self.assertTrue(same(thing, kept))


class Stores(Case):
    def test_as_the_document_has_it(self):
        self.shown(shown_store, (("plain", 5), ("set", (1, 2)), ("list", ()), (OWN, 7)),
                   "plain:5 set:1,2 list: own(+,mine,-,theirs,base):7")

    def test_each_kind(self):
        self.shown(shown_store, (("plain", 0),), "plain:0")
        self.shown(shown_store, (("sum", 12),), "sum:12")
        self.shown(shown_store, (("most", -3),), "most:-3")
        self.shown(shown_store, (("set", (-1, 0, 10)),), "set:-1,0,10")
        self.shown(shown_store, (("list", (3, -2, 3)),), "list:3,-2,3")

    def test_void_ones(self):
        self.shown(shown_store, (("set", ()), ("list", ()), ("set", ())), "set: list: set:")

    def test_one_in_it(self):
        self.shown(shown_store, (("set", (4,)), ("list", (-4,))), "set:4 list:-4")

    def test_own(self):
        for amount, text in ((("num", 3), "3"), (("num", -3), "-3"), (("slot", "a"), "a"), (("less", MINE, ("num", 0)), "<,mine,0"),
                             (("minus", ("less", MINE, BASE), ("plus", ("num", 1), ("num", -2))), "-,<,mine,base,+,1,-2")):
            self.shown(shown_store, ((("own", amount), -7),), f"own({text}):-7")

    def test_great_numbers(self):
        self.shown(shown_store, (("plain", 10 ** 60), ("list", (-10 ** 60,))), f"plain:{10 ** 60} list:{-10 ** 60}")

    def test_by_name(self):
        self.assertEqual(shown_store(store=(("plain", 0),)), "plain:0")
        self.assertEqual(shown_values(values=(0, ())), "0 -")
        self.assertEqual(shown_path(path=(0, 1)), "0.1")


class Values(Case):
    def test_ordinary(self):
        self.shown(shown_values, (5, (1, 2), (), 7), "5 1,2 - 7")
        self.shown(shown_values, (0,), "0")
        self.shown(shown_values, ((),), "-")
        self.shown(shown_values, (-5, (-1,), (0,), ()), "-5 -1 0 -")

    def test_as_the_words_of_the_store(self):
        chance = random.Random(68)
        for _ in range(200):
            store = drawn_store(chance, chance.randint(1, 8))
            words = [word.split(":")[1] or "-" for word in shown_store(store).split(" ")]
            self.shown(shown_values, values_of(store), " ".join(words))


class Paths(Case):
    def test_ordinary(self):
        self.shown(shown_path, (), ".")
        self.shown(shown_path, (0,), "0")
        self.shown(shown_path, (1, 0, 12), "1.0.12")
        self.shown(shown_path, (0, 0, 0), "0.0.0")


class ReadBack(Case):
    def test_stores(self):
        chance = random.Random(681)
        for _ in range(300):
            kinds = [chance.choice(("plain", "sum", "most", "set", "list", "own")) for _ in range(chance.randint(1, 8))]
            store = tuple((("own", drawn_sum(chance, 3, ("base", "mine", "theirs", "a"))) if kind == "own" else kind,
                           drawn_has(chance, kind)) for kind in kinds)
            self.assertTrue(same(read_store(shown_store(store)), store), store)

    def test_paths(self):
        chance = random.Random(682)
        for _ in range(100):
            path = tuple(chance.choice((0, 1, 9, 10, 10 ** 11)) for _ in range(chance.randint(0, 9)))
            self.assertTrue(same(read_path(shown_path(path)), path))
