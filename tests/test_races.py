"""[51]: RACES."""

import copy
import random
import unittest

from forkjoins.diagram import diagram
from forkjoins.events import comes_ahead, events
from forkjoins.races import races
from forkjoins.readings import read_program
from tests.drawing import drawn_program, drawn_store
from tests.racing import Scene
from tests.things import is_plain_told, same

STORE = (("plain", 5), ("sum", 7), ("set", (1,)), ("list", ()))
FIRST, F, G = (), (0,), (1,)


class Case(unittest.TestCase):
    def races(self, text, *wanted, store=STORE):
        program = read_program(text)
        kept = copy.deepcopy((store, program))
        told = races(store, program)
        self.assertTrue(is_plain_told(told))
        self.assertTrue(same((store, program), kept))
        self.assertTrue(same(told, wanted), told)


class Words(Case):
    def test_two_reads_never(self):
        self.races("fork f { read a 0 } 0 read a 0")
        self.races("fork f { has a 2 1 read a 2 } 0 has a 2 1 read a 2")

    def test_a_read_and_a_write(self):
        self.races("fork f { read a 0 } 0 write 0 1", ((FIRST, 1), (F, 0)))
        self.races("fork f { write 0 1 } 0 read a 0", ((FIRST, 1), (F, 0)))

    def test_two_that_write(self):
        self.races("fork f { write 0 1 } 0 write 0 1", ((FIRST, 1), (F, 0)))
        self.races("fork f { add 1 1 } 0 add 1 1", ((FIRST, 1), (F, 0)))
        self.races("fork f { row 3 1 } 0 row 3 1", ((FIRST, 1), (F, 0)))
        self.races("fork f { put 2 1 } 0 take 2 1", ((FIRST, 1), (F, 0)))

    def test_each_two_words(self):
        words = {"read a {}": False, "write {} 1": True, "add {} 1": True}
        for one, first in words.items():
            for other, second in words.items():
                wanted = [((FIRST, 1), (F, 0))] if first or second else []
                self.races(f"fork f {{ {one.format(1)} }} 0 {other.format(1)}", *wanted)
        words = {"read a 2": False, "has a 2 1": False, "put 2 1": True, "take 2 1": True}
        for one, first in words.items():
            for other, second in words.items():
                wanted = [((FIRST, 1), (F, 0))] if first or second else []
                self.races(f"fork f {{ {one} }} 0 {other}", *wanted)

    def test_other_cells_dont(self):
        self.races("fork f { write 0 1 } 0 write 1 1 put 2 0 row 3 0")

    def test_a_fork_and_a_join_are_no_accesses(self):
        # The PATHS (0,) and (1,) of forks and joins are no CELLS 0 and 1.
        self.races("fork f { fork g { } 0 join g a } 0 fork g { } 0 join g a")


class Ahead(Case):
    def test_two_of_one_revision_never(self):
        self.races("write 0 1 write 0 2 read a 0")
        self.races("fork f { write 0 1 write 0 2 } 0 join f a write 0 3 write 0 4")

    def test_by_a_fork(self):
        self.races("write 0 1 fork f { write 0 2 } 0")
        self.races("write 0 1 fork f { fork g { write 0 2 } 0 } 0")

    def test_by_a_join(self):
        self.races("fork f { write 0 2 } 0 join f a write 0 1")
        self.races("fork f { fork g { write 0 2 } 0 join g a } 0 join f a read a 0")

    def test_not_by_the_join_of_a_forker_alone(self):
        self.races("fork f { fork g { write 0 2 } 0 } 0 join f a read a 0", ((FIRST, 2), ((0, 0), 0)))

    def test_two_beside_one_another(self):
        text = "fork f { write 0 1 } 0 fork g { write 0 2 } 0 join f a join g a write 0 3"
        self.races(text, ((F, 0), (G, 0)))

    def test_one_behind_the_other(self):
        self.races("fork f { write 0 1 } 0 join f a fork g { write 0 2 } 0 join g a")

    def test_through_a_handle_given_over(self):
        self.races("fork f { write 0 1 } 0 fork g { join f a write 0 2 } 1 f join g a write 0 3")
        self.races("fork f { write 0 1 } 0 fork g { write 0 2 join f a } 1 f join g a write 0 3", ((F, 0), (G, 0)))

    def test_through_one_without_events(self):
        self.races("write 0 1 fork f { tell 1 } 0 fork g { join f a write 0 2 } 1 f join g a read a 0")
        self.races("fork f { tell 1 } 0 write 0 1 fork g { join f a } 1 f fork h { write 0 2 } 0")
        # The "join" of F, which has no EVENT, is behind its "fork" alone.
        self.races("fork f { } 0 fork g { join f a read a 0 } 1 f write 0 1", ((FIRST, 2), (G, 1)))

    def test_access_between_the_fork_and_the_join(self):
        self.races("read a 0 fork f { write 0 1 } 0 read a 0 join f a read a 0", ((FIRST, 2), (F, 0)))


class Others(Case):
    def test_lost_ones(self):
        self.races("fork f { write 0 1 } 0 fork f { write 0 2 } 0 join f a write 0 3",
                   ((FIRST, 3), (F, 0)), ((F, 0), (G, 0)))

    def test_failed_ones(self):
        self.races("fork f { write 0 1 fail write 0 1 } 0 write 0 3", ((FIRST, 1), (F, 0)))
        self.races("fork f { write 0 1 fail } 0 join f a write 0 3")
        self.races("fork f { write 0 1 } 0 fail write 0 3")

    def test_those_that_are_not_come_to(self):
        self.races("fork f { write 0 1 } 0 if 0 { write 0 2 } { tell 1 }")
        self.races("fork f { write 0 1 } 0 join g a write 0 2")

    def test_what_the_plain_run_comes_to_alone(self):
        # By the plain run F reads its own 5, and so never comes to the "write".
        self.races("fork f { read a 0 if < a 5 { write 1 1 } { } } 0 write 1 1")

    def test_void(self):
        self.races("")
        self.races("tell 1 fork f { tell 1 } 0")

    def test_rising_and_the_lesser_first(self):
        self.races("fork f { write 0 1 write 0 2 } 0 fork g { read a 0 } 0 write 0 1 read a 1 write 0 1",
                   ((FIRST, 2), (F, 0)), ((FIRST, 2), (F, 1)), ((FIRST, 2), (G, 0)),
                   ((FIRST, 4), (F, 0)), ((FIRST, 4), (F, 1)), ((FIRST, 4), (G, 0)),
                   ((F, 0), (G, 0)), ((F, 1), (G, 0)))

    def test_rising_by_numbers(self):
        """(2,) comes ahead of (10,)."""
        text = "fork f { } 0 " * 2 + "fork f { write 0 1 } 0 " + "fork f { } 0 " * 7 + "fork f { read a 0 } 0"
        self.races(text, (((2,), 0), ((10,), 0)))

    def test_by_names(self):
        program = read_program("fork f { read a 0 } 0 write 0 1")
        self.assertEqual(races(program=program, store=STORE), (((FIRST, 1), (F, 0)),))


class Drawn(Case):
    def test_by_links_of_the_diagram(self):
        chance = random.Random(51)
        many = 0
        for _ in range(250):
            store = drawn_store(chance, 2)
            program = drawn_program(chance, store, 2, 5)
            told = races(store, program)
            self.assertEqual(told, Scene(diagram(store, program)).races())
            self.assertEqual(list(told), sorted(set(told)))
            many += bool(told)
        self.assertGreater(many, 60)

    def test_neither_is_ahead(self):
        chance = random.Random(511)
        for _ in range(60):
            store = drawn_store(chance, 2)
            program = drawn_program(chance, store, 2, 5)
            words = {row[:2]: row[2:] for row in events(store, program)}
            for one, other in races(store, program):
                self.assertLess(one, other)
                self.assertEqual(words[one][1], words[other][1])
                self.assertFalse(comes_ahead(store, program, one, other))
                self.assertFalse(comes_ahead(store, program, other, one))
