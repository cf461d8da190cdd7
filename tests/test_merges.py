"""[5], [15], [16], [17]: MERGED, by each KIND, and CELL by CELL."""

import random
import unittest

from forkjoins.merges import merged, merged_cells
from tests.things import GREAT, OWN, OWN_LESS, is_plain_told

BASE, MINE, THEIRS = ("slot", "base"), ("slot", "mine"), ("slot", "theirs")


def drawn_has(kind, chance):
    """What a CELL of this KIND CAN HAVE."""
    if kind == "set":
        return tuple(sorted(chance.sample(range(-4, 5), chance.randint(0, 6))))
    if kind == "list":
        return tuple(chance.randint(-3, 3) for _ in range(chance.randint(0, 5)))
    return chance.randint(-9, 9)


class ByKind(unittest.TestCase):
    def test_plain(self):
        self.assertEqual(merged("plain", base=1, mine=2, theirs=3), 3)
        self.assertEqual(merged("plain", base=1, mine=2, theirs=1), 1)

    def test_sum(self):
        self.assertEqual(merged("sum", base=10, mine=12, theirs=7), 9)
        self.assertEqual(merged("sum", base=-GREAT, mine=0, theirs=GREAT), 2 * GREAT)

    def test_most(self):
        self.assertEqual(merged("most", base=9, mine=2, theirs=3), 3)
        self.assertEqual(merged("most", base=0, mine=-2, theirs=-3), -2)
        self.assertEqual(merged("most", base=0, mine=4, theirs=4), 4)

    def test_set(self):
        self.assertEqual(merged("set", base=(1, 2, 3), mine=(1, 2, 9), theirs=(0, 2, 3)), (0, 2, 9))
        self.assertEqual(merged("set", base=(1,), mine=(), theirs=(1,)), ())
        self.assertEqual(merged("set", base=(), mine=(4,), theirs=(4,)), (4,))
        self.assertEqual(merged("set", base=(1,), mine=(1,), theirs=()), ())
        self.assertEqual(merged("set", base=(1,), mine=(), theirs=()), ())
        self.assertEqual(merged("set", base=(), mine=(), theirs=(-1, 5)), (-1, 5))

    def test_set_drawn(self):
        chance = random.Random(2)
        for _ in range(300):
            base, mine, theirs = [drawn_has("set", chance) for _ in range(3)]
            wanted = (set(mine) | (set(theirs) - set(base))) - (set(base) - set(theirs))
            self.assertEqual(merged("set", base=base, mine=mine, theirs=theirs), tuple(sorted(wanted)))

    def test_list(self):
        self.assertEqual(merged("list", base=(1, 2), mine=(1, 2, 7), theirs=(1, 2, 5, 5)), (1, 2, 7, 5, 5))
        self.assertEqual(merged("list", base=(), mine=(), theirs=(3,)), (3,))

    def test_list_by_the_words_alone(self):
        self.assertEqual(merged("list", base=(1, 2), mine=(9,), theirs=(7, 8, 6)), (9, 6))
        self.assertEqual(merged("list", base=(1, 2), mine=(9,), theirs=(7, 8)), (9,))
        self.assertEqual(merged("list", base=(1, 2), mine=(9,), theirs=(7,)), (9,))
        self.assertEqual(merged("list", base=(1, 2), mine=(9, 9), theirs=()), (9, 9))

    def test_own(self):
        self.assertEqual(merged(OWN, base=1, mine=20, theirs=300), 319)
        self.assertEqual(merged(OWN_LESS, base=1, mine=2, theirs=3), 1)
        self.assertEqual(merged(OWN_LESS, base=1, mine=3, theirs=3), 0)
        for slot, number in ((BASE, 1), (MINE, 20), (THEIRS, 300)):
            self.assertEqual(merged(("own", slot), base=1, mine=20, theirs=300), number)
        self.assertEqual(merged(("own", ("num", -8)), base=1, mine=20, theirs=300), -8)

    def test_own_with_other_slots(self):
        other = ("plus", ("slot", "a"), ("minus", THEIRS, ("slot", "their")))
        self.assertEqual(merged(("own", other), base=1, mine=20, theirs=300), 300)
        self.assertEqual(merged(("own", ("slot", "bases")), base=1, mine=20, theirs=300), 0)

    def test_by_names_in_any_order(self):
        self.assertEqual(merged(theirs=(2,), kind="list", mine=(1,), base=()), (1, 2))
        with self.assertRaises(TypeError):
            merged("sum", 1, 2, 3)


class Cells(unittest.TestCase):
    KINDS = ("plain", "sum", "most", "set", "list", OWN)
    BASE = (1, 10, 5, (1, 2), (4,), 3)
    MINE = (2, 11, 6, (2, 3), (4, 5), 4)
    THEIRS = (9, 14, 7, (1, 7), (4, 6), 8)
    WHOLE = (9, 15, 7, (3, 7), (4, 5, 6), 9)

    def told(self, written):
        return merged_cells(self.KINDS, written, base=self.BASE, mine=self.MINE, theirs=self.THEIRS)

    def test_none_some_all(self):
        self.assertEqual(self.told(()), self.MINE)
        self.assertEqual(self.told((1, 3)), (2, 15, 6, (3, 7), (4, 5), 4))
        self.assertEqual(self.told((0, 1, 2, 3, 4, 5)), self.WHOLE)
        self.assertTrue(is_plain_told(self.told((0, 1, 2, 3, 4, 5))))

    def test_each_cell_alone(self):
        for cell in range(6):
            wanted = list(self.MINE)
            wanted[cell] = self.WHOLE[cell]
            self.assertEqual(self.told((cell,)), tuple(wanted))

    def test_by_names(self):
        told = merged_cells(theirs=(5,), mine=(3,), written=(0,), base=(2,), kinds=("sum",))
        self.assertEqual(told, (6,))


class Laws(unittest.TestCase):
    def setUp(self):
        self.chance = random.Random(3)

    def drawn(self, kind):
        return [drawn_has(kind, self.chance) for _ in range(2)]

    def test_where_theirs_is_base(self):
        for kind in ("sum", "set", "list"):
            for _ in range(100):
                base, mine = self.drawn(kind)
                self.assertEqual(merged(kind, base=base, mine=mine, theirs=base), mine)

    def test_where_mine_is_base(self):
        for kind in ("plain", "sum", "set"):
            for _ in range(100):
                base, theirs = self.drawn(kind)
                self.assertEqual(merged(kind, base=base, mine=base, theirs=theirs), theirs)

    def test_where_mine_is_base_and_theirs_begins_with_it(self):
        for _ in range(100):
            base, more = self.drawn("list")
            self.assertEqual(merged("list", base=base, mine=base, theirs=base + more), base + more)
        self.assertEqual(merged("list", base=(1,), mine=(1,), theirs=(2,)), (1,))

    def test_not_so_of_most_and_own(self):
        self.assertEqual(merged("most", base=5, mine=5, theirs=3), 5)
        self.assertEqual(merged("most", base=5, mine=3, theirs=5), 5)
        self.assertEqual(merged("plain", base=5, mine=3, theirs=5), 5)
        self.assertEqual(merged(("own", ("num", 7)), base=5, mine=5, theirs=3), 7)
