"""[18], [19], [20], [22]: NUMBERS of SUMS, orders of JOINS, ORDER PAPERS."""

import itertools
import random
import unittest

from forkjoins import orders
from forkjoins.merges import merged
from forkjoins.orderchecker import lets_order
from forkjoins.orders import both_orders, in_order, numbers_of, order_paper
from forkjoins.sums import worth
from tests.drawing import drawn_has, drawn_sum
from tests.things import BARE, OWN, is_plain_told

BASE, MINE, THEIRS, OTHER = ("slot", "base"), ("slot", "mine"), ("slot", "theirs"), ("slot", "a")
SLOTS = ("base", "mine", "theirs", "a")
ZERO, ONE = ("num", 0), ("num", 1)


def has_less(amount):
    return amount[0] == "less" or any(has_less(part) for part in amount[1:] if isinstance(part, tuple))


def parted_by(kind, reach, same_base):
    """Whether some NUMBERS from -reach to reach part two JOINS: all of them are looked at."""
    span = range(-reach, reach + 1)
    for mine, base, theirs, other, others in itertools.product(span, repeat=5):
        if same_base and base != other:
            continue
        first = merged(kind, base=other, mine=merged(kind, base=base, mine=mine, theirs=theirs), theirs=others)
        second = merged(kind, base=base, mine=merged(kind, base=other, mine=mine, theirs=others), theirs=theirs)
        if first != second:
            return True
    return False


class Numbers(unittest.TestCase):
    def test_by_hand(self):
        for amount, numbers in (
                (("num", 7), (0, 0, 0, 7)), (("num", -7), (0, 0, 0, -7)), (BASE, (1, 0, 0, 0)), (MINE, (0, 1, 0, 0)),
                (THEIRS, (0, 0, 1, 0)), (OTHER, (0, 0, 0, 0)), (("slot", "bases"), (0, 0, 0, 0)),
                (("plus", MINE, ("minus", THEIRS, BASE)), (-1, 1, 1, 0)),
                (("minus", ("num", 3), ("minus", MINE, ("num", 4))), (0, -1, 0, 7)),
                (("plus", THEIRS, ("plus", THEIRS, OTHER)), (0, 0, 2, 0)), (("minus", BASE, BASE), (0, 0, 0, 0))):
            self.assertEqual(numbers_of(amount), numbers)
            self.assertTrue(is_plain_told(numbers_of(amount)))

    def test_less_at_any_depth(self):
        less = ("less", ("num", 1), ("num", 2))
        for amount in (less, ("plus", less, ONE), ("plus", ONE, less), ("minus", less, ONE), ("minus", ONE, less),
                       ("minus", ONE, ("plus", ("plus", MINE, less), ONE)), ("less", less, less), ("less", MINE, less)):
            self.assertIsNone(numbers_of(amount))

    def test_drawn(self):
        chance = random.Random(4)
        for _ in range(400):
            amount = drawn_sum(chance, 4, SLOTS)
            told = numbers_of(amount)
            self.assertEqual(told is None, has_less(amount))
            if told is not None:
                base, mine, theirs = [chance.randint(-99, 99) for _ in range(3)]
                a, b, c, d = told
                rows = (("base", base), ("mine", mine), ("theirs", theirs))
                self.assertEqual(worth(amount, slots=rows), a * base + b * mine + c * theirs + d)

    def test_by_name(self):
        self.assertEqual(numbers_of(amount=ONE), (0, 0, 0, 1))


class InOrder(unittest.TestCase):
    def test_none_one_several(self):
        self.assertEqual(in_order("sum", mine=4), 4)
        self.assertEqual(in_order("list", mine=(4,), joins=()), (4,))
        self.assertEqual(in_order("sum", mine=4, joins=((1, 3),)), 6)
        self.assertEqual(in_order("plain", mine=4, joins=((1, 3), (1, 5), (0, 2))), 2)
        self.assertEqual(in_order("list", mine=(4,), joins=(((), (1,)), ((), (2, 3)), ((9,), (9, 7)))), (4, 1, 2, 3, 7))
        self.assertEqual(in_order("set", mine=(1, 2), joins=(((1,), (3,)), ((3,), ()))), (2,))

    def test_own_goes_on_with_what_came(self):
        kind = ("own", ("plus", MINE, MINE))
        self.assertEqual(in_order(kind, mine=3, joins=((0, 0),) * 4), 48)

    def test_both_orders(self):
        self.assertEqual(both_orders("plain", mine=0, one=(0, 1), other=(0, 2)), (2, 1))
        self.assertEqual(both_orders("list", mine=(9,), one=((), (1,)), other=((), (2,))), ((9, 1, 2), (9, 2, 1)))
        self.assertEqual(both_orders("sum", mine=5, one=(0, 1), other=(1, 4)), (9, 9))
        told = both_orders(other=((1,), ()), one=((), (1,)), mine=(), kind="set")
        self.assertEqual(told, ((), (1,)))
        self.assertTrue(is_plain_told(told))

    def test_by_names_alone(self):
        self.assertEqual(in_order(joins=((0, 2),), mine=1, kind="most"), 2)
        with self.assertRaises(TypeError):
            in_order("most", 1, ())
        with self.assertRaises(TypeError):
            both_orders("most", 1, (0, 1), (0, 2))


class Papers(unittest.TestCase):
    def check(self, kind, word, **more):
        told = order_paper(kind, **more)
        self.assertEqual(told[0], word)
        self.assertTrue(is_plain_told(told))
        same_base = more.get("same_base", False)
        self.assertEqual(lets_order(kind, told, same_base=same_base), word)
        return told

    def test_bare_kinds(self):
        for kind, apart, alike in (("plain", "parted", "parted"), ("sum", "alike", "alike"), ("most", "alike", "alike"),
                                   ("set", "parted", "alike"), ("list", "parted", "parted")):
            self.check(kind, apart)
            self.check(kind, apart, same_base=False, reach=0)
            self.check(kind, alike, same_base=True)
            if alike == "alike":
                self.assertEqual(order_paper(kind, same_base=True), ("alike", None))

    def test_own_without_less(self):
        for amount, apart, alike in (
                (MINE, "alike", "alike"), (ZERO, "alike", "alike"), (OTHER, "alike", "alike"),
                (("plus", MINE, MINE), "alike", "alike"), (BASE, "parted", "alike"), (THEIRS, "parted", "parted"),
                (("minus", THEIRS, BASE), "parted", "parted"), (OWN[1], "alike", "alike"),
                (("minus", BASE, MINE), "parted", "alike"), (("minus", THEIRS, MINE), "parted", "parted"),
                (("plus", ("minus", MINE, MINE), ("num", 5)), "alike", "alike")):
            for word, same_base in ((apart, False), (alike, True)):
                told = self.check(("own", amount), word, same_base=same_base)
                if word == "alike":
                    self.assertEqual(told, ("alike", numbers_of(amount)))

    def test_own_with_less_by_reach(self):
        far = ("own", ("less", ONE, THEIRS))
        self.assertEqual(order_paper(far), ("within", 1))
        self.assertEqual(order_paper(far, reach=0), ("within", 0))
        self.assertEqual(order_paper(far, reach=1), ("within", 1))
        self.check(far, "parted", reach=2)
        near = ("own", ("less", ZERO, THEIRS))
        self.assertEqual(order_paper(near, reach=0), ("within", 0))
        self.check(near, "parted")
        self.check(near, "parted", reach=2)
        never = ("own", ("plus", MINE, ("less", BASE, THEIRS)))
        for reach in (0, 1, 2):
            self.assertEqual(order_paper(never, reach=reach), ("within", reach))

    def test_own_with_less_by_base(self):
        by_base = ("own", ("less", BASE, ZERO))
        self.check(by_base, "parted")
        self.assertEqual(order_paper(by_base, same_base=True), ("within", 1))
        self.assertEqual(order_paper(by_base, same_base=True, reach=2), ("within", 2))

    def test_drawn_with_less(self):
        chance = random.Random(5)
        words = set()
        for _ in range(40):
            amount = ("plus", ("less", drawn_sum(chance, 2, SLOTS), drawn_sum(chance, 1, SLOTS)),
                      drawn_sum(chance, 2, SLOTS))
            for same_base, reach in ((False, 1), (True, 1), (True, 0)):
                parted = parted_by(("own", amount), reach, same_base)
                told = self.check(("own", amount), "parted" if parted else "within", same_base=same_base, reach=reach)
                words.add(told[0])
                if parted:
                    mine, one, other = told[1]
                    self.assertLessEqual(max(map(abs, (mine, *one, *other))), reach)
                else:
                    self.assertEqual(told, ("within", reach))
        self.assertEqual(words, {"parted", "within"})

    def test_reach(self):
        self.assertEqual(orders.REACH, 1)
        self.assertIs(type(orders.REACH), int)

    def test_by_names_alone(self):
        self.assertEqual(order_paper(reach=2, same_base=True, kind="set"), ("alike", None))
        with self.assertRaises(TypeError):
            order_paper("set", True)


class Laws(unittest.TestCase):
    def test_all_orders_of_what_is_alike_come_to_the_same(self):
        chance = random.Random(6)
        for kind in BARE + tuple([("own", drawn_sum(chance, 2, SLOTS, ("plus", "minus"))) for _ in range(60)]):
            for same_base in (False, True):
                if order_paper(kind, same_base=same_base)[0] != "alike":
                    continue
                base = drawn_has(chance, kind)
                joins = [(base if same_base else drawn_has(chance, kind), drawn_has(chance, kind)) for _ in range(4)]
                mine = drawn_has(chance, kind)
                ends = {in_order(kind, mine=mine, joins=row) for row in itertools.permutations(joins)}
                self.assertEqual(len(ends), 1)
