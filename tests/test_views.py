"""[45], [47]: what each REVISION HAS, and its BEGINNING."""

import copy
import random
import unittest

from forkjoins.paces import finished, run
from forkjoins.states import begun
from forkjoins.steps import able, step
from forkjoins.views import beginning, view
from tests.drawing import drawn_program, drawn_store
from tests.statemodel import Copies, state_behind
from tests.things import any_things, is_plain_told, refusal_of, same

STORE = (("plain", 5), ("sum", 7), ("set", (1,)), ("list", ()))
F, G = (0,), (1,)
TEXT = "add 1 1 fork f { write 0 6 put 2 3 tell 1 } 0 write 0 8 row 3 9 join f a tell 1"


def state_of(text, *paths):
    return state_behind(STORE, text, *paths)


class ByHand(unittest.TestCase):
    def check(self, state, path, has, began):
        kept = copy.deepcopy(state)
        told = view(state, path)
        self.assertTrue(is_plain_told(told))
        self.assertTrue(same(told, has))
        if began is None:
            self.assertEqual(refusal_of(beginning, state, path), ("NoRevision", path))
        else:
            told = beginning(state, path)
            self.assertTrue(is_plain_told(told))
            self.assertTrue(same(told, began))
        self.assertTrue(same(state, kept))

    def test_at_the_beginning(self):
        self.check(state_of(TEXT), (), (5, 7, (1,), ()), None)
        self.check(state_of(""), (), (5, 7, (1,), ()), None)

    def test_behind_a_fork(self):
        state = state_of(TEXT, (), ())
        self.check(state, (), (5, 8, (1,), ()), None)
        self.check(state, F, (5, 8, (1,), ()), (5, 8, (1,), ()))

    def test_each_has_its_own(self):
        state = state_of(TEXT, (), (), (), F, (), F)
        self.check(state, (), (8, 8, (1,), (9,)), None)
        self.check(state, F, (6, 8, (1, 3), ()), (5, 8, (1,), ()))

    def test_ended_and_held(self):
        state = state_of(TEXT, (), (), (), F, (), F, F)
        self.assertEqual([row[1] for row in state[1]], ["runs", "ended"])
        self.check(state, F, (6, 8, (1, 3), ()), (5, 8, (1,), ()))

    def test_failed_and_held(self):
        self.check(state_of("fork f { write 0 6 fail } 0 tell 1", (), F, F), F, (6, 7, (1,), ()), (5, 7, (1,), ()))

    def test_joined(self):
        state = state_of(TEXT, (), (), (), F, (), F, F, ())
        self.check(state, (), (6, 8, (1, 3), (9,)), None)
        for function in (view, beginning):
            self.assertEqual(refusal_of(function, state, F), ("NoRevision", F))

    def test_lost_while_it_runs(self):
        state = state_of("fork f { write 0 6 tell 1 } 0 fork f { tell 1 } 0 tell 1", (), F, ())
        self.check(state, F, (6, 7, (1,), ()), None)
        self.check(state, G, (5, 7, (1,), ()), (5, 7, (1,), ()))
        state, _ = step(state, F)
        self.assertEqual(refusal_of(view, state, F), ("NoRevision", F))

    def test_the_first_at_its_end(self):
        self.check(finished(state_of(TEXT))[0], (), (6, 8, (1, 3), (9,)), None)
        self.check(state_of("write 0 1 fail", (), ()), (), (1, 7, (1,), ()), None)

    def test_by_names(self):
        state = state_of(TEXT, (), ())
        self.assertEqual(view(path=F, state=state), beginning(path=F, state=state))


class Refused(unittest.TestCase):
    def test_very_thing(self):
        state = state_of(TEXT, (), (), F)
        for path in any_things() + [(1,), (0, 0), (-1,), [], [0], (False,), (True,), 0, "", "()", ([0],), ((0,),), ((),), (0, None)]:
            kept = copy.deepcopy((state, path))
            for function in (view, beginning):
                told = refusal_of(function, state, path)
                self.assertEqual(told[0], "NoRevision")
                self.assertIs(told[1], path)
            self.assertTrue(same((state, path), kept))

    def test_very_thing_where_there_is_no_root(self):
        state = finished(state_of(TEXT))[0]
        for path in ((), F):
            thing = tuple(list(path))
            told = refusal_of(beginning, state, thing)
            self.assertEqual(told[0], "NoRevision")
            self.assertIs(told[1], thing)


class Drawn(unittest.TestCase):
    def test_against_plain_copies(self):
        chance = random.Random(45)
        many = 0
        for _ in range(200):
            store = drawn_store(chance)
            program = drawn_program(chance, store)
            state, copies = begun(store, program), Copies(store, program, chance)
            while able(state):
                path = chance.choice(able(state))
                state, _ = step(state, path)
                copies.step(path)
                held = copies.held()
                for path, one in copies.all.items():
                    done = one.word != "runs" and path != () and path not in held
                    wanted = ("NoRevision", path)
                    self.assertEqual(refusal_of(view, state, path), wanted if done else None)
                    self.assertEqual(refusal_of(beginning, state, path), None if path in held else wanted)
                    if not done:
                        self.assertTrue(same(view(state, path), tuple(one.values)))
                    if path in held:
                        self.assertTrue(same(beginning(state, path), one.begin))
                        many += 1
        self.assertGreater(many, 1000)

    def test_views_stay_as_long_as_one_does_not_step(self):
        """TIDYING, and others' steps, turn nothing of what one HAS."""
        chance = random.Random(46)
        for _ in range(100):
            store = drawn_store(chance)
            state = begun(store, drawn_program(chance, store))
            while able(state):
                path = chance.choice(able(state))
                behind, _ = step(state, path)
                for row in behind[1]:
                    if row[0] != path and row[7] is not None and row[0] in [known[0] for known in state[1]]:
                        self.assertEqual(view(behind, row[0]), view(state, row[0]))
                state = behind

    def test_values_handed_in_again(self):
        state = run(state_of(TEXT), (0, 0, 1))[0]
        store = tuple(zip((kind for kind, _ in STORE), view(state, F)))
        self.assertEqual(view(begun(store, ()), ()), view(state, F))
