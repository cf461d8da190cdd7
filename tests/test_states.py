"""[37], [38]: the STATE at the beginning."""

import copy
import random
import unittest

from forkjoins.segments import seen
from forkjoins.states import begun
from tests.drawing import drawn_program, drawn_store
from tests.things import OWN, is_plain_told, same

STORE = (("plain", 5), ("set", (1, 2)), ("list", ()), (OWN, -4))
KINDS = ("plain", "set", "list", OWN)
TOP = (0, None, ((0, 5), (1, (1, 2)), (2, ()), (3, -4)))


class Begun(unittest.TestCase):
    def test_runs(self):
        program = (("tell", ("num", 1)), ("fork", "f", (("fail",),), ()))
        self.assertTrue(same(begun(STORE, program),
                             (KINDS, (((), "runs", program, (), (), (), (), 0, None),), (TOP,), 1)))

    def test_void_program_has_ended(self):
        self.assertTrue(same(begun(STORE, ()), (KINDS, (((), "ended", (), (), (), (), (), 0, None),), (TOP,), 1)))

    def test_one_cell(self):
        self.assertTrue(same(begun((("sum", 0),), (("fail",),)),
                             (("sum",), (((), "runs", (("fail",),), (), (), (), (), 0, None),), ((0, None, ((0, 0),)),), 1)))

    def test_drawn(self):
        chance = random.Random(38)
        for _ in range(50):
            store = drawn_store(chance, chance.randint(1, 8))
            program = drawn_program(chance, store)
            kept = copy.deepcopy((store, program))
            kinds, rows, segments, made = state = begun(store, program)
            self.assertTrue(is_plain_told(state))
            self.assertTrue(same(kept, (store, program)))
            self.assertEqual(kinds, tuple(kind for kind, _ in store))
            self.assertEqual(seen(segments, 0), tuple(has for _, has in store))
            self.assertEqual(rows[0][1], "runs" if program else "ended")
            self.assertEqual((len(rows), rows[0][2], made), (1, program, 1))

    def test_by_names(self):
        self.assertEqual(begun(program=(("fail",),), store=STORE), begun(STORE, (("fail",),)))
