"""[65]: PROGRAMS that are CUT AHEAD of a STEP."""

import copy
import random
import unittest

from forkjoins.cuts import cut_ahead
from forkjoins.plain import plain_run
from forkjoins.programs import is_program
from forkjoins.readings import read_program
from forkjoins.texts import shown_program
from forkjoins.ways import at_way, ways
from tests.drawing import drawn_program, drawn_store
from tests.model import World
from tests.test_ways import ALL, NO_WAYS, PROGRAM
from tests.things import any_things, is_plain_told, refusal_of, same

STORE = (("plain", 5), ("sum", 7), ("set", (1,)), ("list", ()))


def by_hand(program, way):
    """A second telling: what is left, and whether it ends there and then."""
    at, *rest = way
    if not rest:
        return program[:at], True
    step, which = program[at], rest[0]
    inner, ends = by_hand(step[2 + which], rest[1:])
    step = step[:2 + which] + (inner,) + step[3 + which:]
    if step[0] == "if" and ends:
        return program[:at] + (step,), True
    return program[:at] + (step,) + program[at + 1:], False


class Case(unittest.TestCase):
    def cut(self, text, *way):
        program = read_program(text)
        kept = copy.deepcopy(program)
        told = cut_ahead(program, way)
        self.assertTrue(is_plain_told(told))
        self.assertTrue(same(program, kept))
        return shown_program(told)


class Cuts(Case):
    def test_of_the_whole(self):
        self.assertEqual(self.cut("tell 1 tell 2 tell 3", 0), "")
        self.assertEqual(self.cut("tell 1 tell 2 tell 3", 1), "tell 1")
        self.assertEqual(self.cut("tell 1 tell 2 tell 3", 2), "tell 1 tell 2")

    def test_in_an_if(self):
        text = "tell 1 if a { tell 2 tell 3 } { tell 4 } tell 5"
        self.assertEqual(self.cut(text, 1, 0, 1), "tell 1 if a { tell 2 } { tell 4 }")
        self.assertEqual(self.cut(text, 1, 0, 0), "tell 1 if a { } { tell 4 }")
        self.assertEqual(self.cut(text, 1, 1, 0), "tell 1 if a { tell 2 tell 3 } { }")
        self.assertEqual(self.cut(text, 1), "tell 1")
        self.assertEqual(self.cut(text, 2), "tell 1 if a { tell 2 tell 3 } { tell 4 }")

    def test_in_a_fork(self):
        """The forker goes on."""
        text = "tell 1 fork f { tell 2 tell 3 } 1 g tell 5"
        self.assertEqual(self.cut(text, 1, 0, 1), "tell 1 fork f { tell 2 } 1 g tell 5")
        self.assertEqual(self.cut(text, 1, 0, 0), "tell 1 fork f { } 1 g tell 5")
        self.assertEqual(self.cut(text, 1), "tell 1")

    def test_in_an_if_within_an_if(self):
        text = "if 1 { tell 1 if 2 { tell 2 tell 3 } { } tell 4 } { tell 5 } tell 6"
        self.assertEqual(self.cut(text, 0, 0, 1, 0, 1), "if 1 { tell 1 if 2 { tell 2 } { } } { tell 5 }")

    def test_in_an_if_within_a_fork(self):
        text = "fork f { tell 1 if 2 { tell 2 tell 3 } { } tell 4 } 0 tell 6"
        self.assertEqual(self.cut(text, 0, 0, 1, 0, 1), "fork f { tell 1 if 2 { tell 2 } { } } 0 tell 6")

    def test_in_a_fork_within_an_if(self):
        text = "if 2 { tell 1 fork f { tell 2 tell 3 } 0 tell 4 } { } tell 6"
        self.assertEqual(self.cut(text, 0, 0, 1, 0, 1), "if 2 { tell 1 fork f { tell 2 } 0 tell 4 } { } tell 6")

    def test_up_to_the_nearest_fork_alone(self):
        text = "fork f { if 1 { fork g { if 2 { tell 1 tell 2 } { } tell 3 } 0 tell 4 } { } tell 5 } 0 tell 6"
        self.assertEqual(self.cut(text, 0, 0, 0, 0, 0, 0, 0, 0, 1),
                         "fork f { if 1 { fork g { if 2 { tell 1 } { } } 0 tell 4 } { } tell 5 } 0 tell 6")
        self.assertEqual(self.cut(text, 0, 0, 0, 0, 1),
                         "fork f { if 1 { fork g { if 2 { tell 1 tell 2 } { } tell 3 } 0 } { } } 0 tell 6")

    def test_each_step_of_drawn_ones(self):
        chance = random.Random(65)
        for _ in range(120):
            program = drawn_program(chance, drawn_store(chance), 4, 5)
            for way in ways(program):
                if len(way) % 2:
                    told = cut_ahead(program, way)
                    self.assertTrue(is_program(told))
                    self.assertTrue(same(told, by_hand(program, way)[0]))

    def test_by_names(self):
        self.assertEqual(cut_ahead(way=(1,), program=PROGRAM), PROGRAM[:1])


class Refused(Case):
    def test_no_way(self):
        for thing in any_things() + NO_WAYS:
            kept = copy.deepcopy(thing)
            self.assertTrue(same(refusal_of(cut_ahead, PROGRAM, thing), ("NoStep", "way")), thing)
            self.assertTrue(same(thing, kept))

    def test_way_to_a_program(self):
        for way in ALL:
            wanted = ("NoStep", "way") if len(way) % 2 == 0 else None
            self.assertTrue(same(refusal_of(cut_ahead, PROGRAM, way), wanted))
        self.assertEqual(refusal_of(cut_ahead, (), ()), ("NoStep", "way"))


class Run(Case):
    """Where the run comes to the STEP, whoever has it does just the same up to there and ENDS."""

    def marked(self, program, way):
        """The PROGRAM with the STEP told by a WORD of its own, so that one sees who comes to it."""
        step = ("let", "zzz", ("num", 0))
        home, at = way[:-1], way[-1]
        inner = at_way(program, home)
        return self.put(program, home, inner[:at] + (step,) + inner[at:])

    def put(self, thing, way, newer):
        if not way:
            return newer
        place = way[0]
        step = thing[place]
        which = 2 + way[1]
        step = step[:which] + (self.put(step[which], way[2:], newer),) + step[which + 1:]
        return thing[:place] + (step,) + thing[place + 1:]

    def test_of_what_is_left(self):
        chance = random.Random(651)
        reached = 0
        for _ in range(200):
            store = drawn_store(chance)
            program = drawn_program(chance, store, 3, 5)
            steps = [way for way in ways(program) if len(way) % 2]
            for way in chance.sample(steps, min(3, len(steps))):
                world = World(store, self.marked(program, way), chance)
                comes = [path for path, hand in world.hands.items() if "zzz" in hand.given]
                if comes:
                    # Whoever began with the SLOT given has it in slots alone: one alone came to the STEP.
                    self.assertEqual(len(comes), 1)
                    self.look(store, program, way, comes[0])
                    reached += 1
        self.assertGreater(reached, 150)

    def look(self, store, program, way, path):
        whole = {row[0]: row for row in plain_run(store, program)}
        left = {row[0]: row for row in plain_run(store, cut_ahead(program, way))}
        self.assertEqual(left[path][1], "ended")
        self.assertTrue(set(left[path][3]) <= set(whole[path][3]))
        self.assertEqual(left[path][5], whole[path][5])
        if whole[path][1] == "ended":
            self.assertEqual(left[path][2], whole[path][2][:len(left[path][2])])
        forked = [[each for each in rows if each[:-1] == path and each] for rows in (left, whole)]
        self.assertTrue(set(forked[0]) <= set(forked[1]))
        for each in forked[0]:
            self.assertTrue(same(left[each], whole[each]))

    def test_undone_join(self):
        program = read_program("write 0 1 fork f { write 0 2 } 0 tell 3 join f a tell 4")
        rows = plain_run(STORE, cut_ahead(program, (3,)))
        self.assertEqual((rows[0][1], rows[0][2], rows[0][6][0]), ("ended", (3,), 1))
        self.assertEqual(plain_run(STORE, program)[0][6][0], 2)
