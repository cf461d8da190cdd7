"""[29]: the DIAGRAM."""

import random
import unittest

from forkjoins.diagram import diagram
from forkjoins.plain import plain_run
from tests.drawing import drawn_program, drawn_store
from tests.model import World
from tests.things import is_plain_told

ONE = ("num", 1)
STORE = (("plain", 5), ("sum", 1), ("set", (1,)), ("list", ()))


def fork(name, *program, names=()):
    return ("fork", name, program, names)


class Diagram(unittest.TestCase):
    def events(self, *program):
        drawn = diagram(STORE, program)
        self.assertTrue(is_plain_told(drawn))
        return dict(drawn)

    def test_void(self):
        self.assertEqual(diagram(STORE, ()), (((), ()),))

    def test_each_word(self):
        events = self.events(
            ("read", "a", 3), ("has", "a", 2, ONE), ("write", 0, ONE), ("add", 1, ONE), ("put", 2, ONE), ("take", 2, ONE),
            ("row", 3, ONE), ("let", "a", ONE), ("tell", ONE), ("if", ONE, (("tell", ONE), ("read", "a", 1)), (("fail",),)),
            fork("f", ("tell", ONE)), ("join", "f", "a"), ("fail",), ("tell", ONE))
        self.assertEqual(events[()], (
            ("read", 3), ("has", 2), ("write", 0), ("add", 1), ("put", 2), ("take", 2), ("row", 3), ("let",), ("tell",),
            ("if",), ("tell",), ("read", 1), ("fork", (0,)), ("join", (0,)), ("fail",)))
        self.assertEqual(events[(0,)], (("tell",),))

    def test_join_of_none(self):
        self.assertEqual(self.events(("tell", ONE), ("join", "f", "a"), ("tell", ONE))[()], (("tell",), ("join", None)))

    def test_joins_of_handles_given_over_and_given_anew(self):
        events = self.events(fork("f"), fork("f"), fork("g", ("join", "f", "a"), names=("f",)), ("join", "g", "a"),
                             ("join", "f", "a"))
        self.assertEqual(events[()], (("fork", (0,)), ("fork", (1,)), ("fork", (2,)), ("join", (2,)), ("join", None)))
        self.assertEqual(events[(2,)], (("join", (1,)),))

    def test_failed_midway(self):
        events = self.events(fork("f", ("write", 0, ONE), fork("g", ("fail",)), ("fail",), fork("h")), ("join", "f", "a"))
        self.assertEqual(events, {(): (("fork", (0,)), ("join", (0,))),
                                  (0,): (("write", 0), ("fork", (0, 0)), ("fail",)), (0, 0): (("fail",),)})

    def test_rising_by_paths(self):
        drawn = diagram(STORE, (fork("f", fork("f")),) + (fork("g"),) * 10)
        self.assertEqual([path for path, _ in drawn], [(), (0,), (0, 0)] + [(k,) for k in range(1, 11)])

    def test_drawn(self):
        chance = random.Random(13)
        for _ in range(150):
            store = drawn_store(chance)
            program = drawn_program(chance, store)
            drawn = diagram(store, program)
            self.assertEqual(drawn, World(store, program, chance).told(lambda hand: (hand.path, tuple(hand.events))))
            self.assertEqual([path for path, _ in drawn], [row[0] for row in plain_run(store, program)])
            self.assertEqual(drawn, diagram(store, program))

    def test_by_names(self):
        self.assertEqual(diagram(program=(("fail",),), store=STORE), (((), (("fail",),)),))
