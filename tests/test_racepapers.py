"""[52]: RACE PAPERS and FREE PAPERS."""

import copy
import random
import unittest

from forkjoins.diagram import diagram
from forkjoins.racechecker import lets_races
from forkjoins.racepapers import race_paper
from forkjoins.races import races
from forkjoins.readings import read_program
from tests.drawing import drawn_program, drawn_store
from tests.racing import Scene
from tests.things import is_plain_told, same

STORE = (("plain", 5), ("sum", 7), ("set", (1,)), ("list", ()))
FIRST, F, G = (), (0,), (1,)


class Case(unittest.TestCase):
    def paper(self, store, program):
        """The paper, looked at by the second telling and by its checker."""
        kept = copy.deepcopy((store, program))
        told = race_paper(store, program)
        self.assertTrue(is_plain_told(told))
        self.assertTrue(same((store, program), kept))
        free = not races(store, program)
        self.assertIs(Scene(diagram(store, program)).verdict(told), free)
        self.assertIs(lets_races(store, program, told), free)
        self.assertEqual(told[0], "free" if free else "race")
        return told

    def text(self, text):
        return self.paper(STORE, read_program(text))


class Free(Case):
    def test_without_any_that_meet(self):
        for text in ("", "tell 1", "write 0 1 write 0 2", "fork f { read a 0 } 0 read a 0", "fork f { write 1 1 } 0 write 0 1"):
            self.assertEqual(self.text(text), ("free", ()))

    def test_ahead_by_a_fork(self):
        self.assertEqual(self.text("write 0 1 fork f { tell 1 read a 0 } 0"),
                         ("free", (((FIRST, 0), (FIRST, 1), (F, 0)),)))

    def test_ahead_by_a_join(self):
        """Here the lesser name is the one behind."""
        self.assertEqual(self.text("fork f { read a 0 } 0 join f a write 0 1"),
                         ("free", (((F, 0), (FIRST, 1), (FIRST, 2)),)))

    def test_through_one_without_events(self):
        told = self.text("write 0 1 fork f { tell 1 } 0 fork g { join f a read a 0 } 1 f")
        self.assertEqual((told[1][0][0], told[1][0][-1]), ((FIRST, 0), (G, 1)))

    def test_one_chain_for_each_pair_rising(self):
        told = self.text("write 0 1 fork f { read a 0 write 0 2 } 0 join f a read a 0")
        self.assertEqual([sorted((chain[0], chain[-1])) for chain in told[1]],
                         [[(FIRST, 0), (F, 0)], [(FIRST, 0), (F, 1)], [(FIRST, 3), (F, 1)]])


class Race(Case):
    def test_ordinary(self):
        told = self.text("read a 1 fork f { tell 1 read a 1 read a 0 } 0 write 1 2 write 0 1")
        word, one, other, cut = told
        self.assertIn((one, other), (((FIRST, 2), (F, 0)), ((FIRST, 3), (F, 1))))
        self.assertEqual([path for path, _ in cut], [FIRST, F])

    def test_a_pair_for_each_revision_also_with_none(self):
        word, one, other, cut = self.text("fork f { write 0 1 } 0 fork g { tell 1 } 0 write 0 2 fork h { read a 1 } 0")
        self.assertEqual((one, other), ((FIRST, 2), (F, 0)))
        self.assertEqual(cut, ((FIRST, 2), (F, 0), (G, 0), ((2,), 0)))

    def test_among_others_that_dont(self):
        word, one, other, cut = self.text(
            "write 1 1 fork f { read a 1 write 0 1 } 0 fork g { write 0 1 } 0 join f a join g a write 0 2")
        self.assertEqual((one, other), ((F, 1), (G, 0)))

    def test_by_names(self):
        program = read_program("fork f { read a 0 } 0 write 0 1")
        self.assertEqual(race_paper(program=program, store=STORE), ("race", (FIRST, 1), (F, 0), ((FIRST, 1), (F, 0))))


class Drawn(Case):
    def test_many_small_ones(self):
        chance = random.Random(52)
        words = []
        for _ in range(500):
            store = drawn_store(chance, chance.randint(1, 3))
            words.append(self.paper(store, drawn_program(chance, store, 2, 5)))
        self.assertGreater(len([told for told in words if told[0] == "race"]), 60)
        self.assertGreater(len([told for told in words if told[0] == "free" and told[1]]), 30)
