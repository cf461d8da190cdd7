"""[46]: PLACES PAPERS and their checker."""

import copy
import itertools
import random
import unittest

from forkjoins.segmentchecker import lets_places
from forkjoins.segmentpapers import places_paper
from forkjoins.states import begun
from forkjoins.steps import able, step
from tests.drawing import drawn_program, drawn_store
from tests.statemodel import state_behind
from tests.things import any_things, is_plain_told, refusal_of, same

STORE = (("plain", 5), ("sum", 7))
F, G = (0,), (1,)
TEXT = "fork f { write 0 1 tell 1 tell 2 } 0 write 1 2 fork g { tell 1 } 0 tell 1 join f a tell 1"


def state_of(text, *paths):
    return state_behind(STORE, text, *paths)


# Of SEGMENTS 0, 1 with CELL 1 and 2 with CELL 0, both below 0.
STATE = state_of(TEXT, (), F, ())
RIGHT = (((), (0, 1), None), (F, (2, 0), (0, 0)))


class Papers(unittest.TestCase):
    def paper(self, state, wanted):
        kept = copy.deepcopy(state)
        told = places_paper(state)
        self.assertTrue(is_plain_told(told))
        self.assertTrue(same(told, wanted), told)
        let = lets_places(state, told)
        self.assertTrue(same(let, len(wanted)))
        self.assertTrue(same(state, kept))

    def test_behind_each_step(self):
        state = state_of(TEXT)
        self.paper(state, (((), (0, 0), None),))
        for path, wanted in (
                ((), (((), (0, 0), None), (F, (0, 0), (0, 0)))),
                (F, (((), (0, 0), None), (F, (2, 0), (0, 0)))),
                ((), RIGHT),
                # 1 is the root of G; 3 and 4 are below it.
                ((), (((), (0, 1), None), (F, (2, 0), (0, 0)), (G, (0, 1), (0, 1)))),
                (F, (((), (0, 1), None), (F, (2, 0), (0, 0)), (G, (0, 1), (0, 1)))),
                (F, (((), (0, 1), None), (F, (2, 0), (0, 0)), (G, (0, 1), (0, 1)))),
                ((), (((), (0, 1), None), (F, (2, 0), (0, 0)), (G, (0, 1), (0, 1)))),
                # Joined: F is done with, 0 is put together with 1.
                ((), (((), (3, 1), None), (G, (1, 1), (1, 1)))),
                ((), (((), (3, 1), None), (G, (1, 1), None))),
                # All are through: 3 alone.
                (G, (((), (3, 3), None),))):
            state, _ = step(state, path)
            self.paper(state, wanted)

    def test_one_that_failed_and_is_held(self):
        self.paper(state_of("fork f { write 0 1 fail } 0 tell 1", (), F, F),
                   (((), (0, 0), None), (F, (2, 0), (0, 0))))

    def test_void_program(self):
        self.paper(state_of(""), (((), (0, 0), None),))

    def test_drawn(self):
        chance = random.Random(46)
        for _ in range(100):
            store = drawn_store(chance, chance.randint(1, 6))
            state = begun(store, drawn_program(chance, store))
            while able(state):
                state, _ = step(state, chance.choice(able(state)))
                self.paper(state, tuple(self.triple(state, row) for row in state[1] if row[7] is not None))

    def triple(self, state, row):
        rows = {number: (above, dict(held)) for number, above, held in state[2]}

        def nearest(number, cell):
            return number if cell in rows[number][1] else nearest(rows[number][0], cell)

        cells = range(len(state[0]))
        bases = None if row[8] is None else tuple(nearest(row[8], cell) for cell in cells)
        return (row[0], tuple(nearest(row[7], cell) for cell in cells), bases)

    def test_by_names(self):
        self.assertEqual(places_paper(state=STATE), RIGHT)
        self.assertEqual(lets_places(thing=RIGHT, state=STATE), 2)


class Refused(unittest.TestCase):
    def refused(self, thing, word, at, state=STATE):
        kept = copy.deepcopy((state, thing))
        told = refusal_of(lets_places, state, thing)
        self.assertTrue(same(told, ("NoPaper", word, at)), (told, thing))
        self.assertTrue(same((state, thing), kept))

    def test_right_one(self):
        self.assertTrue(same(lets_places(STATE, RIGHT), 2))

    def test_shape(self):
        first, second = RIGHT
        for thing in any_things():
            self.refused(thing, "shape", -1)
            self.refused((first, thing), "shape", -1)
            if thing is not None:
                self.refused((first, (F, (2, 0), thing)), "shape", -1)
        for thing in (
                [], [first, second], (list(first), second), (first, list(second)), ([], second), (first, ([0], (2, 0), (0, 0))),
                (first, (F, [2, 0], (0, 0))), (first, (F, (2, 0), [0, 0])), (first, ((False,), (2, 0), (0, 0))),
                (first, (F, (2, False), (0, 0))), (first, (F, (2, 0), (0, False))), (((), (0, True), None), second),
                (((), (0, 1)), second), (((), (0, 1), None, None), second), (((), None, None), second),
                ((None, (0, 1), None), second), ((0, (0, 1), None), second), (((), 0, None), second), (((), (0, 1), 0), second),
                (((), (0, "1"), None), second), (((), (0, None), None), second), (((), (0, (1,)), None), second),
                (((), (0, 1), False), second), ((), second), (first, second, ()), first, None, 2, "RIGHT"):
            self.refused(thing, "shape", -1)

    def test_shape_ahead_of_all(self):
        self.refused((((9,), (0,), None), (F, (2, 0), "")), "shape", -1)

    def test_paths(self):
        first, second = RIGHT
        for thing in ((), (first,), (second,), (second, first), (first, first), (first, second, second),
                      (first, second, (G, (0, 0), None)), (first, ((1,), (2, 0), (0, 0))), (first, ((0, 0), (2, 0), (0, 0))),
                      (((0,), (0, 1), None), second), (first, ((-1,), (2, 0), (0, 0)))):
            self.refused(thing, "paths", -1)

    def test_paths_of_those_that_are_done_with(self):
        state = state_of("fork f { } 0 join f a tell 1", (), ())
        self.assertEqual(places_paper(state), (((), (1, 1), None),))
        self.refused((((), (1, 1), None), (F, (1, 1), None)), "paths", -1, state=state)

    def test_paths_ahead_of_many_and_place(self):
        self.refused((((), (0,), None), (G, (2, 0), (0, 0))), "paths", -1)
        self.refused((((), (9, 9), None), (G, (2, 0), (0, 0))), "paths", -1)

    def test_many(self):
        first, second = RIGHT
        for places in ((), (0,), (0, 1, 0), (0, 1, 1)):
            self.refused((((), places, None), second), "many", 0)
            self.refused((first, (F, places, (0, 0))), "many", 1)
        for bases in ((), (0, 1), (0, 0)):
            self.refused((((), (0, 1), bases), second), "many", 0)
        for bases in (None, (), (0,), (0, 0, 0)):
            self.refused((first, (F, (2, 0), bases)), "many", 1)

    def test_many_ahead_of_place_and_base(self):
        first, _ = RIGHT
        self.refused((first, (F, (9, 9), (0,))), "many", 1)
        self.refused((first, (F, (9, 9), None)), "many", 1)
        self.refused((first, (F, (9,), (9, 9))), "many", 1)

    def test_place(self):
        first, second = RIGHT
        for wrong in (1, 2, 3, 9, -1, 10 ** 60):
            self.refused((((), (wrong, 1), None), second), "place", (0, 0))
        for wrong in (0, 2, 3):
            self.refused((((), (0, wrong), None), second), "place", (0, 1))
            self.refused((((), (wrong + 1, wrong), None), second), "place", (0, 0))
        self.refused((first, (F, (0, 0), (0, 0))), "place", (1, 0))
        self.refused((first, (F, (2, 2), (0, 0))), "place", (1, 1))

    def test_base(self):
        first, _ = RIGHT
        self.refused((first, (F, (2, 0), (2, 0))), "base", (1, 0))
        self.refused((first, (F, (2, 0), (0, 1))), "base", (1, 1))
        self.refused((first, (F, (2, 0), (1, 1))), "base", (1, 0))

    def test_all_places_ahead_of_all_bases(self):
        first, _ = RIGHT
        self.refused((first, (F, (2, 9), (9, 0))), "place", (1, 1))
        self.refused((first, (F, (9, 0), (9, 0))), "place", (1, 0))

    def test_triple_by_triple(self):
        self.refused((((), (0, 9), None), (F, (2,), (0, 0))), "place", (0, 1))
        self.refused((((), (0, 1, 1), None), (F, (9, 9), (0, 0))), "many", 0)
        state = state_of(TEXT, (), F, (), ())
        first, second, third = places_paper(state)
        self.refused((first, (F, (2, 0), (0, 9)), (G, (0,), None)), "base", (1, 1), state=state)
        self.refused((first, (F, (2, 0), (0, 9)), (G, (9, 1), (0, 1))), "base", (1, 1), state=state)
        self.refused((first, second, (G, (0, 1), (0, 0))), "base", (2, 1), state=state)

    def test_just_one_is_let_by(self):
        numbers = range(-1, 4)
        pairs = list(itertools.product(numbers, repeat=2))
        first, second = RIGHT
        let = [places for places in pairs if refusal_of(lets_places, STATE, (((), places, None), second)) is None]
        self.assertEqual(let, [(0, 1)])
        let = [(places, bases) for places in pairs for bases in pairs + [None]
               if refusal_of(lets_places, STATE, (first, (F, places, bases))) is None]
        self.assertEqual(let, [((2, 0), (0, 0))])

    def test_paper_of_another_state(self):
        chance = random.Random(47)
        for _ in range(60):
            store = drawn_store(chance)
            state, states = begun(store, drawn_program(chance, store)), []
            while able(state):
                states.append(state)
                state, _ = step(state, chance.choice(able(state)))
            for one, other in itertools.product(states[:8], repeat=2):
                alike = places_paper(one) == places_paper(other)
                self.assertEqual(refusal_of(lets_places, one, places_paper(other)) is None, alike)
