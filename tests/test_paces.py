"""[42], [43], [44]: PACES, and that all paces are alike."""

import copy
import random
import unittest

from forkjoins import paces
from forkjoins.paces import finished, run
from forkjoins.plain import plain_run
from forkjoins.readings import read_program
from forkjoins.states import begun
from forkjoins.steps import able, step, waiting
from forkjoins.views import view
from tests.drawing import drawn_program, drawn_store
from tests.things import GREAT, is_plain_told, same

STORE = (("plain", 5), ("sum", 7))
F, G = (0,), (1,)
TELLS = read_program("fork f { tell 10 tell 11 tell 12 } 0 fork g { tell 20 tell 21 tell 22 } 0 tell 1 tell 2 tell 3")


def moved(log):
    """Whose MOVES they are, one behind another."""
    return [path for path, _, _ in log]


class Case(unittest.TestCase):
    def told(self, function, state, *args, **named):
        kept = copy.deepcopy((state, args, named))
        told = function(state, *args, **named)
        self.assertTrue(is_plain_told(told))
        self.assertTrue(same((state, args), kept[:2]) and named == kept[2])
        self.assertEqual(len(told), 2)
        return told


class Run(Case):
    def test_limit(self):
        self.assertTrue(same(paces.LIMIT, 400))

    def test_void_pace(self):
        state = begun(STORE, TELLS)
        self.assertEqual(self.told(run, state, ()), (state, ()))
        self.assertEqual(self.told(run, state, (), most=0), (state, ()))

    def test_number_of_those_that_can(self):
        state, log = self.told(run, begun(STORE, TELLS), (0, 0, 2, 1, 0, 1))
        self.assertEqual(log, (((), "fork", F), ((), "fork", G), (G, "tell", 20), (F, "tell", 10), ((), "tell", 1),
                               (F, "tell", 11)))
        self.assertEqual(able(state), ((), F, G))

    def test_modulo(self):
        for number, path in ((0, ()), (1, F), (2, G), (3, ()), (4, F), (-1, G), (-2, F), (-3, ()), (-4, G), (3 * GREAT + 1, F),
                             (-3 * GREAT - 1, G), (3 * GREAT, ())):
            _, log = self.told(run, begun(STORE, TELLS), (0, 0, number))
            self.assertEqual(moved(log), [(), (), path], number)

    def test_modulo_how_many_there_are_then(self):
        # One, two and three can; then () waits: two can.
        program = read_program("fork f { tell 1 } 0 fork g { tell 2 tell 3 } 0 join g a")
        _, log = self.told(run, begun(STORE, program), (5, 4, 3, 3, 7))
        self.assertEqual(moved(log), [(), (), G, G, F])

    def test_same_as_steps(self):
        chance = random.Random(42)
        for _ in range(60):
            store = drawn_store(chance)
            program = drawn_program(chance, store)
            pace = tuple(chance.randint(-50, 50) for _ in range(chance.randint(0, 30)))
            most = chance.choice((0, 1, 5, 400))
            state, log = begun(store, program), []
            for number in pace[:most]:
                if able(state):
                    state, move = step(state, able(state)[number % len(able(state))])
                    log.append(move)
            self.assertEqual(self.told(run, begun(store, program), pace, most=most), (state, tuple(log)))

    def test_none_where_nobody_can(self):
        state = begun(STORE, (("tell", ("num", 1)),))
        behind, log = self.told(run, state, (3, 1, 4, 1))
        self.assertEqual(log, (((), "tell", 1),))
        self.assertEqual(behind, step(state, ())[0])
        self.assertEqual(self.told(run, behind, (1, 2)), (behind, ()))
        self.assertEqual(self.told(run, begun(STORE, ()), (0,)), (begun(STORE, ()), ()))

    def test_most(self):
        state, pace = begun(STORE, TELLS), (0, 0, 2, 1, 0)
        whole = run(state, pace)
        self.assertEqual(len(whole[1]), 5)
        for most in range(8):
            behind, log = self.told(run, state, pace, most=most)
            self.assertEqual(log, whole[1][:most])
            self.assertEqual(behind, run(state, pace[:most])[0])
        self.assertEqual(run(state, pace, most=10 ** 30), whole)

    def test_most_left_out(self):
        program = (("tell", ("num", 1)),) * 410
        for many in (399, 400, 401, 409):
            _, log = run(begun(STORE, program), (0,) * many)
            self.assertEqual(len(log), min(many, 400))
        _, log = run(begun(STORE, program), (0,) * 420, most=405)
        self.assertEqual(len(log), 405)

    def test_log_and_state_handed_in_again(self):
        state = begun(STORE, TELLS)
        behind, log = run(state, (0, 0, 1, 2, 0))
        again = state
        for path, _, _ in log:
            again, _ = step(again, path)
        self.assertEqual(again, behind)
        self.assertEqual(run(run(state, (0, 0))[0], (1, 2, 0))[0], behind)

    def test_by_names(self):
        state = begun(STORE, TELLS)
        self.assertEqual(run(most=2, pace=(0, 0, 1), state=state), run(state, (0, 0)))
        self.assertEqual(finished(by=(1,), state=state), finished(state, by=(1,)))


class Finished(Case):
    def test_left_out_and_void(self):
        state = begun(STORE, TELLS)
        behind, log = self.told(finished, state)
        self.assertEqual(moved(log), [()] * 5 + [F] * 3 + [G] * 3)
        self.assertEqual(able(behind), ())
        self.assertEqual(self.told(finished, state, by=()), (behind, log))
        self.assertEqual(self.told(finished, state, by=(0,)), (behind, log))

    def test_round_and_round(self):
        state = begun(STORE, TELLS)
        _, log = self.told(finished, state, by=(0, 0, 2, 1))
        self.assertEqual(moved(log), [(), (), G, F, (), (), G, F, (), F, G])
        _, log = self.told(finished, state, by=(-1,))
        self.assertEqual(moved(log), [(), F, F, F, (), G, G, G, (), (), ()])

    def test_of_one_that_is_through(self):
        state = begun(STORE, ())
        self.assertEqual(self.told(finished, state), (state, ()))
        self.assertEqual(self.told(finished, state, by=(3, 4)), (state, ()))

    def test_beyond_the_limit(self):
        program = (("tell", ("num", 1)),) * 450
        for by in ((0,), (0, 1, 2), (0,) * 430):
            behind, log = finished(begun(STORE, program), by=by)
            self.assertEqual((len(log), able(behind)), (450, ()))

    def test_midway(self):
        state = run(begun(STORE, TELLS), (0, 0, 1))[0]
        behind, log = self.told(finished, state, by=(1,))
        self.assertEqual(moved(log), [F, F, G, G, G, (), (), ()])


class AllPaces(Case):
    def drawn(self, seed, many):
        chance = random.Random(seed)
        for _ in range(many):
            store = drawn_store(chance)
            yield chance, store, drawn_program(chance, store)

    def pace(self, chance):
        return tuple(chance.randint(-9, 9) for _ in range(chance.randint(0, 5)))

    def by_revision(self, log):
        found = {}
        for path, word, what in log:
            found.setdefault(path, []).append((word, what))
        return found

    def test_ends_are_those_of_the_plain_run(self):
        for chance, store, program in self.drawn(43, 150):
            rows = plain_run(store, program)
            state, _ = finished(begun(store, program), by=self.pace(chance))
            self.assertEqual([row[0] for row in state[1]], [row[0] for row in rows])
            for one, plain in zip(state[1], rows):
                self.assertEqual(one[1], plain[1])
                if one[1] == "ended":
                    self.assertEqual(one[5], plain[2])
                    self.assertEqual(one[6], tuple(cell for cell, _ in plain[4]))
            if rows[0][1] == "ended":
                self.assertEqual(view(state, ()), rows[0][6])

    def test_unlike_paces(self):
        for chance, store, program in self.drawn(44, 150):
            one, first = finished(begun(store, program), by=self.pace(chance))
            other, second = finished(begun(store, program), by=self.pace(chance))
            self.assertEqual(self.by_revision(first), self.by_revision(second))
            self.assertEqual([row[:7] for row in one[1]], [row[:7] for row in other[1]])
            self.assertEqual(view(one, ()), view(other, ()))

    def test_as_far_as_both_go(self):
        for chance, store, program in self.drawn(45, 100):
            logs = [self.by_revision(run(begun(store, program), self.pace(chance) * 3)[1]) for _ in range(2)]
            for path in set(logs[0]) & set(logs[1]):
                far = min(len(log[path]) for log in logs)
                self.assertEqual(logs[0][path][:far], logs[1][path][:far])

    def test_who_can_still_can(self):
        for chance, store, program in self.drawn(46, 100):
            state = begun(store, program)
            while able(state):
                path = chance.choice(able(state))
                behind, _ = step(state, path)
                self.assertLessEqual(set(able(state)) - {path}, set(able(behind)))
                state = behind

    def test_where_one_runs_one_can(self):
        for chance, store, program in self.drawn(47, 100):
            state = begun(store, program)
            while any(row[1] == "runs" for row in state[1]):
                self.assertTrue(able(state))
                self.check_no_ring(dict(waiting(state)))
                state, _ = step(state, chance.choice(able(state)))
            self.assertEqual(waiting(state), ())

    def check_no_ring(self, waits):
        for path in waits:
            seen = []
            while path in waits:
                self.assertNotIn(path, seen)
                seen.append(path)
                path = waits[path]
