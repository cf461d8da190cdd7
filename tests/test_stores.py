"""[3], [12], [13]: KINDS, STORES and VALUES."""

import unittest

from forkjoins.stores import can_have, is_kind, is_store, kinds_of, values_of, with_values
from tests.things import BARE, GREAT, KINDS, OWN, SUM_FORMS, any_things, deep_sum, is_plain_told

STORE = (("plain", -4), ("sum", GREAT), ("most", 0), ("set", (-2, 3, GREAT)), ("list", (5, 5, -5)),
         (OWN, 7), ("set", ()), ("list", ()))
NO_TUPLES = (None, True, False, "", "1", [], [1], (True,), (1, False), (None,), ("1",), ((1,),), ([1],))


class IsKind(unittest.TestCase):
    def test_kinds(self):
        for kind in KINDS + tuple([("own", form) for form in SUM_FORMS]):
            self.assertIs(is_kind(kind), True)
        self.assertIs(is_kind(("own", deep_sum(("num", 1), 39))), True)

    def test_near_kinds(self):
        for thing in ("Plain", "plain ", "own", "lists", ("plain",), ("plain", ("num", 1)), ["own", ("num", 1)],
                      ("own", ["num", 1]), ("own", ("num", True)), ("own", ("num", 1), ("num", 1)), ("own", 1),
                      ("own", "a"), ("own", None), ("own", ()), ("own", deep_sum(("num", False), 39)), 1, ()):
            self.assertIs(is_kind(thing), False)

    def test_other_things(self):
        for thing in any_things():
            self.assertIs(is_kind(thing), False)


class CanHave(unittest.TestCase):
    def test_numbers(self):
        for kind in ("plain", "sum", "most", OWN):
            for thing in (0, -1, GREAT, -GREAT):
                self.assertIs(can_have(kind, thing), True)
            for thing in any_things() + list(NO_TUPLES) + [(), (1,), (1, 2)]:
                self.assertIs(can_have(kind, thing), False)

    def test_sets(self):
        for thing in ((), (0,), (-3, 0, 2), (-GREAT, GREAT), tuple(range(100))):
            self.assertIs(can_have("set", thing), True)
        for thing in ((1, 1), (2, 1), (1, 3, 2), (1, 2, 2), (2, 2, 3), (True, 2), (0, True), [1, 2], (1, None), (1, "2")):
            self.assertIs(can_have("set", thing), False)

    def test_lists(self):
        for thing in ((), (0,), (1, 1), (2, 1), (-GREAT, GREAT, 0), (3,) * 100):
            self.assertIs(can_have("list", thing), True)
        for thing in ([1, 2], (1, True), (False,), (1, None), (1, (2,)), (1, "2")):
            self.assertIs(can_have("list", thing), False)

    def test_neither_has_other_things(self):
        for kind in ("set", "list"):
            for thing in any_things() + list(NO_TUPLES) + [0, 1, -GREAT]:
                self.assertIs(can_have(kind, thing), False)

    def test_by_names(self):
        self.assertIs(can_have(thing=(2, 1), kind="set"), False)
        self.assertIs(can_have(thing=(2, 1), kind="list"), True)


class IsStore(unittest.TestCase):
    def test_stores(self):
        self.assertIs(is_store(STORE), True)
        for row in STORE:
            self.assertIs(is_store((row,)), True)

    def test_no_bounds(self):
        self.assertIs(is_store(STORE * 10), True)
        self.assertIs(is_store((("list", (1,) * 500), ("set", tuple(range(500))))), True)

    def test_near_stores(self):
        good = ("plain", 1)
        for row in (("plain", True), ("sum", False), ("most", (1,)), ("plain", ()), (OWN, (1,)), (OWN, True),
                    ("set", 1), ("list", 1), ("set", (2, 1)), ("set", (1, 1)), ("set", [1]), ("list", [1]),
                    ("set", (True,)), ("list", (True,)), ["plain", 1], ("plain", 1, 2), ("plain",), ("own", 1),
                    (("own", ("num", True)), 1), ("word", 1), (None, 1), None, 1, "plain", (), (1, "plain")):
            for thing in ((row,), (good, row), (row, good)):
                self.assertIs(is_store(thing), False)

    def test_void_and_lists_and_other_things(self):
        for thing in any_things() + [(), [], list(STORE), [("plain", 1)], ("plain", 1), 1]:
            self.assertIs(is_store(thing), False)


class Told(unittest.TestCase):
    def test_kinds_and_values(self):
        self.assertEqual(kinds_of(STORE), ("plain", "sum", "most", "set", "list", OWN, "set", "list"))
        self.assertEqual(values_of(STORE), (-4, GREAT, 0, (-2, 3, GREAT), (5, 5, -5), 7, (), ()))
        self.assertTrue(is_plain_told((kinds_of(STORE), values_of(STORE))))

    def test_with_values(self):
        values = (1, 2, 3, (4,), (5, 4), 6, (7, 8), (1,))
        told = with_values(STORE, values)
        self.assertEqual(told, tuple(zip(kinds_of(STORE), values)))
        self.assertTrue(is_plain_told(told))
        self.assertEqual(with_values(STORE, values_of(STORE)), STORE)
        self.assertEqual(values_of(told), values)
        self.assertEqual(kinds_of(told), kinds_of(STORE))

    def test_by_names(self):
        self.assertEqual(with_values(values=(3,), store=(("sum", 1),)), (("sum", 3),))
        self.assertEqual(kinds_of(store=STORE[:1]), ("plain",))
        self.assertEqual(values_of(store=STORE[:1]), (-4,))
        self.assertIs(is_kind(thing="set"), True)
        self.assertIs(is_store(thing=STORE), True)

    def test_bare_kinds_are_five(self):
        self.assertEqual([kind for kind in BARE if is_kind(kind)], list(BARE))
