"""[64]: WAYS."""

import copy
import random
import unittest

from forkjoins.programs import is_program, is_step
from forkjoins.readings import read_program
from forkjoins.ways import at_way, put_at, ways
from tests.drawing import drawn_program, drawn_store
from tests.things import any_things, is_plain_told, refusal_of, same

TELL = ("tell", ("num", 1))
PROGRAM = read_program("read a 0 if a { tell 1 fork f { tell 2 } 0 } { } fork g { if 1 { } { tell 3 } } 1 f")
ALL = (
    (), (0,), (1,), (1, 0), (1, 0, 0), (1, 0, 1), (1, 0, 1, 0), (1, 0, 1, 0, 0), (1, 1), (2,), (2, 0), (2, 0, 0), (2, 0, 0, 0),
    (2, 0, 0, 1), (2, 0, 0, 1, 0),
)
NO_WAYS = [
    (3,), (-1,), (0, 0), (1, 2), (1, -1), (1, 0, 2), (1, 0, -1), (1, 1, 0), (1, 0, 1, 1), (1, 0, 1, 0, 0, 0), (2, 1), (2, -1), (2, 0, 1),
    (2, 0, 0, 2), (2, 0, 0, 0, 0), (10 ** 60,), (0,) * 30, [], [0], [1, 0], (False,), (True,), (1, False), (1, 0, True), (True, 0), (None,),
    ("0",), ((0,),), (1, (0,)), None, 0, 1, "", "0", ".", "1.0", True, False,
]


def by_hand(program):
    """A second telling: each WAY with what it leads to."""
    found = {(): program}
    for at, step in enumerate(program):
        found[(at,)] = step
        inner = {"if": step[2:], "fork": step[2:3]}.get(step[0], ())
        for which, within in enumerate(inner):
            found.update({(at, which) + way: thing for way, thing in by_hand(within).items()})
    return found


def some_programs():
    chance = random.Random(64)
    rows = [(), (TELL,), PROGRAM]
    for _ in range(60):
        rows.append(drawn_program(chance, drawn_store(chance), 3, 5))
    return rows


class Case(unittest.TestCase):
    def refused(self, word, function, *args):
        kept = copy.deepcopy(args)
        self.assertTrue(same(refusal_of(function, *args), ("NoStep", word)), args)
        self.assertTrue(same(args, kept))


class Ways(Case):
    def test_ordinary(self):
        self.assertTrue(same(ways(PROGRAM), ALL))
        self.assertEqual(ways(()), ((),))

    def test_rising_by_numbers(self):
        told = ways((TELL,) * 12)
        self.assertEqual(told, ((),) + tuple((at,) for at in range(12)))

    def test_drawn(self):
        for program in some_programs():
            told = ways(program)
            self.assertTrue(is_plain_told(told))
            self.assertEqual(told, tuple(sorted(by_hand(program))))

    def test_by_names(self):
        self.assertEqual(ways(program=(TELL,)), ((), (0,)))
        self.assertEqual(at_way(way=(0,), program=(TELL,)), TELL)
        self.assertEqual(put_at(thing=("fail",), way=(0,), program=(TELL,)), (("fail",),))


class AtWay(Case):
    def test_each(self):
        for program in some_programs():
            for way, thing in by_hand(program).items():
                told = at_way(program, way)
                self.assertTrue(same(told, thing))
                self.assertTrue(is_program(told) if len(way) % 2 == 0 else is_step(told))

    def test_ordinary(self):
        self.assertEqual(at_way(PROGRAM, ()), PROGRAM)
        self.assertEqual(at_way(PROGRAM, (0,)), ("read", "a", 0))
        self.assertEqual(at_way(PROGRAM, (1, 1)), ())
        self.assertEqual(at_way(PROGRAM, (1, 0, 1, 0)), (("tell", ("num", 2)),))
        self.assertEqual(at_way(PROGRAM, (2, 0, 0, 1, 0)), ("tell", ("num", 3)))

    def test_no_way(self):
        for thing in any_things() + NO_WAYS:
            self.refused("way", at_way, PROGRAM, thing)
        for thing in ((0,), (0, 0), [], None):
            self.refused("way", at_way, (), thing)


class PutAt(Case):
    def test_step(self):
        self.assertEqual(put_at((TELL, TELL), (1,), ("fail",)), (TELL, ("fail",)))
        told = put_at(PROGRAM, (1, 0, 1, 0, 0), ("fail",))
        self.assertEqual(told, read_program("read a 0 if a { tell 1 fork f { fail } 0 } { } fork g { if 1 { } { tell 3 } } 1 f"))
        told = put_at(PROGRAM, (2,), TELL)
        self.assertEqual(told, PROGRAM[:2] + (TELL,))

    def test_program(self):
        self.assertEqual(put_at(PROGRAM, (), (TELL,)), (TELL,))
        self.assertEqual(put_at(PROGRAM, (), ()), ())
        told = put_at(PROGRAM, (1, 1), (TELL, TELL))
        self.assertEqual(told, read_program("read a 0 if a { tell 1 fork f { tell 2 } 0 } { tell 1 tell 1 } "
                                            "fork g { if 1 { } { tell 3 } } 1 f"))
        told = put_at(PROGRAM, (2, 0), PROGRAM)
        self.assertEqual(told, PROGRAM[:2] + (("fork", "g", PROGRAM, ("f",)),))

    def test_at_each(self):
        chance = random.Random(641)
        others = [program for program in some_programs() if program]
        for program in some_programs():
            found = by_hand(program)
            for way in found:
                other = chance.choice(others)
                thing = other if len(way) % 2 == 0 else other[0]
                kept = copy.deepcopy((program, thing))
                told = put_at(program, way, thing)
                self.assertTrue(is_plain_told(told) and is_program(told))
                self.assertTrue(same(at_way(told, way), thing))
                self.assertTrue(same(put_at(told, way, found[way]), program))
                self.assertTrue(same((program, thing), kept))
                self.assert_others_stay(found, by_hand(told), way)

    def assert_others_stay(self, before, now, way):
        """Only what leads to the place, and what stands within it, is another one."""
        for other in before:
            if other != way[:len(other)] and way != other[:len(way)]:
                self.assertTrue(same(before[other], now[other]))

    def test_same_thing(self):
        for way, thing in by_hand(PROGRAM).items():
            self.assertTrue(same(put_at(PROGRAM, way, thing), PROGRAM))

    def test_kind(self):
        wrong = [thing for thing in any_things()] + [1, ("tell",), ("tell", ("num", True)), ["tell", ("num", 1)], ("read", "a", False)]
        for way in ALL:
            for thing in wrong:
                self.refused("kind", put_at, PROGRAM, way, thing)
            # A STEP in the place of a PROGRAM, a PROGRAM in that of a STEP.
            self.refused("kind", put_at, PROGRAM, way, TELL if len(way) % 2 == 0 else (TELL,))
            self.refused("kind", put_at, PROGRAM, way, [TELL] if len(way) % 2 == 0 else ())

    def test_way(self):
        for thing in any_things() + NO_WAYS:
            self.refused("way", put_at, PROGRAM, thing, TELL)
            self.refused("way", put_at, PROGRAM, thing, (TELL,))

    def test_way_ahead_of_kind(self):
        for thing in NO_WAYS:
            self.refused("way", put_at, PROGRAM, thing, None)

    def test_behind_the_last_is_no_way(self):
        self.refused("way", put_at, (TELL,), (1,), TELL)
        self.refused("way", put_at, (), (0,), TELL)
