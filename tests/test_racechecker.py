"""[53]: the checker of RACE PAPERS and FREE PAPERS."""

import copy
import random
import unittest

from forkjoins.diagram import diagram
from forkjoins.racechecker import lets_races
from forkjoins.racepapers import race_paper
from forkjoins.readings import read_program
from tests.drawing import drawn_program, drawn_store
from tests.racing import Scene
from tests.things import any_things, refusal_of, same

STORE = (("plain", 5), ("sum", 7), ("set", (1,)), ("list", ()))
FIRST, F, G = (), (0,), (1,)
# EVENTS of (): read 1, fork F, write 1, fork G, write 0, join F, write 0; of F: read 1, read 0; of G: none.
RACING = read_program("read a 1 fork f { tell 1 read a 1 read a 0 } 0 write 1 2 fork g { } 0 write 0 1 join f a write 0 2")
RACE = ("race", (FIRST, 2), (F, 0), ((FIRST, 2), (F, 0), (G, 0)))
# EVENTS of (): write 0, fork F, fork G, join F, read 0; of F: write 0, add 1; of G: read 1.
FREEING = read_program("write 0 1 fork f { write 0 2 add 1 1 } 0 fork g { read a 2 } 0 join f a read a 0 read a 1")
CHAINS = (
    ((FIRST, 0), (FIRST, 1), (F, 0)),
    ((F, 0), (F, 1), (FIRST, 3), (FIRST, 4)),
    ((F, 1), (FIRST, 3), (FIRST, 4), (FIRST, 5)),
)
FREE = ("free", CHAINS)
NOTHING = [thing for thing in any_things() if not same(thing, (FIRST, 1))]
NO_NAMES = [
    (FIRST, 9), (FIRST, -1), (F, 2), (G, 0), ((2,), 0), ((0, 0), 0), [FIRST, 2], ([], 2), ([0], 0), (FIRST, True), (FIRST, False),
    ((False,), 0), ((True,), 0), (F, True), (F, False), (FIRST,), (FIRST, 2, 0), (), (FIRST, None), (FIRST, (2,)), (0, 2), None, 2,
    "", (FIRST, "2"),
]


class Case(unittest.TestCase):
    def told(self, program, thing, store=STORE):
        kept = copy.deepcopy((store, program, thing))
        refusal = refusal_of(lets_races, store, program, thing)
        self.assertTrue(same((store, program, thing), kept))
        return lets_races(store, program, thing) if refusal is None else refusal

    def lets(self, program, thing, wanted):
        self.assertIs(self.told(program, thing), wanted)

    def refused(self, program, thing, word, at):
        told = self.told(program, thing)
        self.assertTrue(same(told, ("NoPaper", word, at)), (told, word, at, thing))


class Shape(Case):
    def test_any_things(self):
        for thing in any_things():
            for program in (RACING, FREEING, ()):
                self.refused(program, thing, "shape", -1)

    def test_near_ones(self):
        for thing in (
                (), RACE[:3], RACE + ((),), list(RACE), ("races",) + RACE[1:], (None,) + RACE[1:], ("free",) + RACE[1:],
                ("free",), FREE + ((),), list(FREE), ("free", list(CHAINS)), ("free", None), ("free", ""), ("race", CHAINS),
                ("FREE", CHAINS), (["free"], CHAINS), (("free",), CHAINS), "free", "race", ("free", 0), ("free", False)):
            self.refused(RACING, thing, "shape", -1)
            self.refused(FREEING, thing, "shape", -1)


class Race(Case):
    def race(self, one=RACE[1], other=RACE[2], cut=RACE[3]):
        return ("race", one, other, cut)

    def test_right_ones(self):
        self.lets(RACING, RACE, False)
        self.lets(RACING, self.race((FIRST, 4), (F, 1), ((FIRST, 4), (F, 1), (G, 0))), False)

    def test_any_cut_of_several(self):
        program = read_program("fork f { write 0 1 } 0 fork g { read a 1 read a 1 } 0 write 0 2")
        for many in range(3):
            self.lets(program, ("race", (FIRST, 2), (F, 0), ((FIRST, 2), (F, 0), (G, many))), False)
        self.refused(program, ("race", (FIRST, 2), (F, 0), ((FIRST, 1), (F, 0), (G, 0))), "next", -1)

    def test_one(self):
        for wrong in NO_NAMES + any_things():
            self.refused(RACING, self.race(one=wrong), "one", -1)
        for no_access in ((FIRST, 1), (FIRST, 3), (FIRST, 5)):
            self.refused(RACING, self.race(one=no_access), "one", -1)

    def test_other(self):
        for wrong in NO_NAMES + any_things():
            self.refused(RACING, self.race(other=wrong), "other", -1)
        for no_access in ((FIRST, 1), (FIRST, 3), (FIRST, 5)):
            self.refused(RACING, self.race(other=no_access), "other", -1)

    def test_meet(self):
        for one, other in (
                ((F, 0), (FIRST, 2)), ((F, 1), (FIRST, 4)), ((FIRST, 2), (FIRST, 2)), ((FIRST, 0), (FIRST, 2)), ((FIRST, 2), (F, 1)),
                ((FIRST, 0), (F, 0)), ((FIRST, 4), (FIRST, 6)), ((F, 0), (F, 1)), ((F, 0), (F, 0)), ((FIRST, 4), (F, 0))):
            self.refused(RACING, self.race(one, other), "meet", -1)

    def test_two_that_meet_and_dont_race(self):
        # The second "write" of CELL 0 is behind F's "read".
        one, other = (FIRST, 6), (F, 1)
        for cut in (((FIRST, 6), (F, 2), (G, 0)), ((FIRST, 6), (F, 1), (G, 0)), ((FIRST, 0), (F, 0), (G, 0)), RACE[3]):
            told = self.told(RACING, self.race(one, other, cut))
            self.assertIn(told, [("NoPaper", "open", 0), ("NoPaper", "next", -1)])
        for first in range(8):
            for second in range(3):
                self.assertIsNot(self.told(RACING, self.race(one, other, ((FIRST, first), (F, second), (G, 0)))), False)

    def test_cut(self):
        first, second, third = RACE[3]
        for cut in any_things() + [
                (), list(RACE[3]), (first, second), (first, third), (second, third), RACE[3] + (((2,), 0),), RACE[3] + (third,),
                (second, first, third), (first, third, second), (first, first, second), (list(first), second, third),
                (first, ([0], 0), third), (first, ((False,), 0), third), (first, second, ((True,), 0)), (first, (F, False), third),
                ((FIRST, True), second, third), ((FIRST, 8), second, third), (first, (F, 3), third), (first, second, (G, 1)),
                (first, (F, -1), third), ((FIRST, -1), second, third), (first, second, (G, -1)), (first, (F,), third),
                (first, (F, 0, 0), third), (first, (F, None), third), (first, (F, "0"), third), (first, (0, 0), third),
                (first, second, ((2,), 0)), (first, second, ((1, 0), 0)), (first, None, third), "cut", 3, None]:
            self.refused(RACING, self.race(cut=cut), "cut", -1)

    def test_open(self):
        # F's first is NEXT BEHIND its "fork".
        self.refused(RACING, self.race(cut=((FIRST, 1), (F, 1), (G, 0))), "open", 1)
        self.refused(RACING, self.race(cut=((FIRST, 0), (F, 2), (G, 0))), "open", 1)
        # The "join" of F is NEXT BEHIND F's last.
        self.refused(RACING, self.race(cut=((FIRST, 6), (F, 0), (G, 0))), "open", 0)
        self.refused(RACING, self.race(cut=((FIRST, 7), (F, 1), (G, 0))), "open", 0)

    def test_open_the_first(self):
        program = read_program("fork f { write 0 1 } 0 fork g { read a 1 } 0 write 0 2 join g a")
        one, other = (FIRST, 2), (F, 0)
        self.refused(program, ("race", one, other, ((FIRST, 0), (F, 1), (G, 1))), "open", 1)
        self.refused(program, ("race", one, other, ((FIRST, 1), (F, 0), (G, 1))), "open", 2)
        self.refused(program, ("race", one, other, ((FIRST, 4), (F, 0), (G, 0))), "open", 0)

    def test_open_of_a_join_of_one_without_events(self):
        program = read_program("fork f { } 0 fork g { join f a read a 0 } 1 f write 0 1")
        self.lets(program, ("race", (FIRST, 2), (G, 1), ((FIRST, 2), (F, 0), (G, 1))), False)
        self.refused(program, ("race", (FIRST, 2), (G, 1), ((FIRST, 1), (F, 0), (G, 1))), "open", 2)

    def test_next(self):
        # One of both is in it.
        self.refused(RACING, self.race(cut=((FIRST, 3), (F, 0), (G, 0))), "next", -1)
        self.refused(RACING, self.race(cut=((FIRST, 2), (F, 1), (G, 0))), "next", -1)
        # One of both is NEXT BEHIND one that isn't.
        self.refused(RACING, self.race(cut=((FIRST, 1), (F, 0), (G, 0))), "next", -1)
        self.refused(RACING, self.race(cut=((FIRST, 0), (F, 0), (G, 0))), "next", -1)
        self.refused(RACING, self.race((FIRST, 4), (F, 1), ((FIRST, 4), (F, 0), (G, 0))), "next", -1)
        self.refused(RACING, self.race((FIRST, 4), (F, 1), ((FIRST, 3), (F, 1), (G, 0))), "next", -1)

    def test_first_of_two(self):
        self.refused(RACING, self.race(one=None, other=None), "one", -1)
        self.refused(RACING, self.race(one=(F, 0), other=None), "other", -1)
        self.refused(RACING, self.race(one=None, other=(FIRST, 2), cut=None), "one", -1)
        self.refused(RACING, self.race(one=(F, 0), other=(FIRST, 2), cut=None), "meet", -1)
        self.refused(RACING, self.race(cut=((FIRST, 6), (F, 0), (G, 9))), "cut", -1)
        self.refused(RACING, self.race(cut=((FIRST, 7), (F, 0), (G, 0))), "open", 0)

    def test_by_names(self):
        self.assertIs(lets_races(thing=RACE, program=RACING, store=STORE), False)
        self.assertIs(lets_races(thing=FREE, program=FREEING, store=STORE), True)


class Free(Case):
    def spoilt(self, place, chain):
        return ("free", CHAINS[:place] + (chain,) + CHAINS[place + 1:])

    def test_right_ones(self):
        self.lets(FREEING, FREE, True)
        self.lets((), ("free", ()), True)

    def test_turned_round_against_the_pair(self):
        """The pair has () first; the chain begins with F, which is AHEAD: it is let by."""
        self.assertEqual((CHAINS[1][0], CHAINS[1][-1]), ((F, 0), (FIRST, 4)))
        self.lets(FREEING, FREE, True)

    def test_written_backwards(self):
        """Its names aren't NEXT BEHIND the ones ahead of them."""
        for place, chain in enumerate(CHAINS):
            self.refused(FREEING, self.spoilt(place, chain[::-1]), "chain", place)

    def test_another_chain_of_the_same_pair(self):
        program = read_program("write 0 1 fork f { } 0 fork g { tell 1 join f a read a 0 } 1 f")
        for chain in (((FIRST, 0), (FIRST, 1), (FIRST, 2), (G, 0), (G, 1)), ((FIRST, 0), (FIRST, 1), (G, 0), (G, 1))):
            self.lets(program, ("free", (chain,)), True)

    def test_many(self):
        for chains in ((), CHAINS[:2], CHAINS[1:], CHAINS + (CHAINS[0],), CHAINS + (None,), CHAINS + ((),)):
            self.refused(FREEING, ("free", chains), "many", -1)
        self.refused((), ("free", ((),)), "many", -1)

    def test_many_where_there_is_a_race(self):
        self.refused(RACING, ("free", ()), "many", -1)

    def test_chain_of_another_pair(self):
        self.refused(FREEING, ("free", (CHAINS[1], CHAINS[0], CHAINS[2])), "chain", 0)
        self.refused(FREEING, ("free", (CHAINS[0], CHAINS[2], CHAINS[1])), "chain", 1)
        self.refused(FREEING, ("free", (CHAINS[0], CHAINS[1], CHAINS[1])), "chain", 2)

    def test_no_chain(self):
        for place, chain in enumerate(CHAINS):
            for wrong in any_things() + [(), list(chain), chain[:1], chain[1:], chain[:-1], (chain[0], chain[-1]), (chain[0],),
                                         chain + chain[-1:], chain[:1] + chain, chain + chain[::-1], chain[:1] + chain[2:]]:
                self.refused(FREEING, self.spoilt(place, wrong), "chain", place)

    def test_names_that_are_none(self):
        for place, chain in enumerate(CHAINS):
            for at in range(len(chain)):
                for wrong in NOTHING + [None, list(chain[at]), (list(chain[at][0]), chain[at][1]), chain[at] + (0,), chain[at][:1],
                                             (chain[at][0], chain[at][1] + 50), (chain[at][0], -1)]:
                    spoilt = chain[:at] + (wrong,) + chain[at + 1:]
                    self.refused(FREEING, self.spoilt(place, spoilt), "chain", place)
        self.refused(FREEING, self.spoilt(0, ((FIRST, False), (FIRST, 1), (F, 0))), "chain", 0)
        self.refused(FREEING, self.spoilt(0, ((FIRST, 0), (FIRST, True), (F, 0))), "chain", 0)
        self.refused(FREEING, self.spoilt(0, ((FIRST, 0), (FIRST, 1), ((False,), 0))), "chain", 0)

    def test_the_first(self):
        self.refused(FREEING, ("free", (None, None, CHAINS[2])), "chain", 0)
        self.refused(FREEING, ("free", (CHAINS[0], None, None)), "chain", 1)

    def test_none_for_two_that_race(self):
        program = read_program("fork f { write 0 1 } 0 write 0 2")
        for chain in (((FIRST, 1), (F, 0)), ((F, 0), (FIRST, 1)), ((FIRST, 1), (FIRST, 0), (F, 0)), ((F, 0), (FIRST, 0), (FIRST, 1))):
            self.refused(program, ("free", (chain,)), "chain", 0)


def places_in(thing, way=()):
    """All places in a thing, tuples within tuples."""
    yield way
    if type(thing) is tuple:
        for at, part in enumerate(thing):
            yield from places_in(part, way + (at,))


def with_at(thing, way, turn):
    if not way:
        return turn(thing)
    return thing[:way[0]] + (with_at(thing[way[0]], way[1:], turn),) + thing[way[0] + 1:]


def turns(chance):
    """Some ways to spoil what stands at a place."""
    def numbered(thing):
        return thing + chance.choice((-1, 1)) if type(thing) is int else thing

    def turned(thing):
        return thing[::-1] if type(thing) is tuple else thing

    def shortened(thing):
        return thing[1:] if type(thing) is tuple else thing

    def doubled(thing):
        return thing + thing[-1:] if type(thing) is tuple else thing

    def listed(thing):
        return list(thing) if type(thing) is tuple else bool(thing)

    return (numbered, numbered, numbered, turned, shortened, doubled, listed)


class Spoilt(Case):
    def test_as_the_second_telling(self):
        chance = random.Random(53)
        words = {}
        for _ in range(150):
            store = drawn_store(chance, chance.randint(1, 3))
            program = drawn_program(chance, store, 2, 5)
            scene = Scene(diagram(store, program))
            paper = race_paper(store, program)
            for _ in range(40):
                spoilt = paper
                for _ in range(chance.choice((1, 1, 2))):
                    spoilt = with_at(spoilt, chance.choice(list(places_in(spoilt))), chance.choice(turns(chance)))
                wanted = scene.verdict(spoilt)
                told = self.told(program, spoilt, store)
                self.assertTrue(same(told, wanted), (store, program, spoilt, told, wanted))
                words[str(wanted)] = words.get(str(wanted), 0) + 1
        for word in ("shape", "one", "other", "meet", "cut", "open", "next", "many", "chain"):
            self.assertTrue([key for key in words if repr(word) in key], word)
        self.assertGreater(words["False"], 50)
        self.assertGreater(words["True"], 50)

    def test_never_both(self):
        """What is let by shows whether there is a RACE: all cuts, all short chains of small PROGRAMS."""
        for text in ("fork f { write 0 1 } 0 read a 0", "fork f { write 0 1 } 0 join f a read a 0", "read a 0 fork f { write 0 1 } 0"):
            program = read_program(text)
            scene = Scene(diagram(STORE, program))
            one, other = scene.meetings[0]
            cuts = [((FIRST, n), (F, m)) for n in range(4) for m in range(2)]
            race = any(self.told(program, ("race", one, other, cut)) is False for cut in cuts)
            names = list(scene.points)
            chains = [(a, b) for a in names for b in names] + [(a, b, c) for a in names for b in names for c in names]
            free = any(self.told(program, ("free", (chain,))) is True for chain in chains)
            self.assertEqual((race, free), (bool(scene.races()), not scene.races()))
