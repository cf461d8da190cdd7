"""[62]: the checker of AGAIN PAPERS."""

import copy
import random
import unittest

from forkjoins.again import run_again
from forkjoins.againchecker import lets_again
from forkjoins.readings import read_program
from tests.drawing import drawn_program, drawn_store
from tests.test_again import drawn_change, reasons_between
from tests.things import any_things, refusal_of, same

STORE = (("plain", 5), ("sum", 7), ("set", (1,)), ("list", ()))
FIRST, F, G, H = (), (0,), (1,), (2,)
# F is run again for three reads, G is kept, H is new.
ELDER = read_program("write 0 1 put 2 3 let a 1 fork f { read b 0 has c 2 1 tell a } 0 fork g { read b 1 } 0")
NEWER = read_program("write 0 2 put 2 4 let a 2 fork f { read b 0 has c 2 1 tell a } 0 fork g { read b 1 } 0 fork h { } 0")
REASONS = (("read", ("cell", 0, 1)), ("read", ("cell", 2, (1, 3))), ("read", ("slot", "a", 1)))
RIGHT = ((FIRST, ("program",)), (F, REASONS[0]), (H, ("new",)))


class Case(unittest.TestCase):
    def told(self, thing, elder=ELDER, newer=NEWER, store=STORE):
        kept = copy.deepcopy((store, elder, newer, thing))
        refusal = refusal_of(lets_again, store, elder, newer, thing)
        self.assertTrue(same((store, elder, newer, thing), kept))
        return lets_again(store, elder, newer, thing) if refusal is None else refusal

    def lets(self, thing, wanted, **programs):
        self.assertTrue(same(self.told(thing, **programs), wanted), thing)

    def refused(self, thing, word, at, **programs):
        told = self.told(thing, **programs)
        self.assertTrue(same(told, ("NoPaper", word, at)), (told, thing))


class Right(Case):
    def test_how_many_are_kept(self):
        self.lets(RIGHT, 1)
        self.lets((), 1, elder=(), newer=())
        self.lets((), 3, newer=ELDER)
        self.lets(((FIRST, ("program",)),), 0, elder=(), newer=read_program("tell 1"))

    def test_any_reason_of_several(self):
        for reason in REASONS:
            self.lets((RIGHT[0], (F, reason), RIGHT[2]), 1)

    def test_each_kind_of_read(self):
        for elder, newer, entry in (
                ("let a 1 fork f { tell a } 0 tell 1", "let a 2 fork f { tell a } 0", ("slot", "a", 1)),
                ("write 0 1 fork f { read a 0 } 0", "fork f { read a 0 } 0", ("cell", 0, 1))):
            paper = ((FIRST, ("program",)), (F, ("read", entry)))
            self.lets(paper, 0, elder=read_program(elder), newer=read_program(newer))
        rest = " fork f { join g a fork h { } 1 g } 1 g"
        self.lets(((FIRST, ("program",)), (F, ("program",)), (G, ("read", ("join", 0, "g", F, "ended", ((0, 5, 1),))))), 1,
                  elder=read_program("fork g { write 0 1 } 0" + rest), newer=read_program("fork g { } 0" + rest))
        for elder, newer, path in ((" 1 g", " 0", F), (" 0", " 1 g", None)):
            text = "fork g { } 0 fork f { fork h { } 1 g }"
            self.lets(((FIRST, ("program",)), (G, ("read", ("give", 0, "g", path)))), 2,
                      elder=read_program(text + elder), newer=read_program(text + newer))

    def test_by_names(self):
        self.assertEqual(lets_again(thing=RIGHT, newer=NEWER, elder=ELDER, store=STORE), 1)


class Refused(Case):
    def test_shape(self):
        for thing in any_things():
            self.refused(thing, "shape", -1)
            if not same(thing, ((), ())):
                self.refused(RIGHT + (thing,), "shape", -1)
        first, second, third = RIGHT
        for thing in (list(RIGHT), (list(first), second, third), (([], ("program",)), second, third), (first, ([0], REASONS[0]), third),
                      ((FIRST, ["program"]), second, third), ((FIRST, "program"), second, third), ((FIRST, None), second, third),
                      ((FIRST,), second, third), ((FIRST, ("program",), ()), second, third), (((False,), REASONS[0]),),
                      (first, second, ((True,), ("new",))), ((None, ()),), ((0, ()),), (("", ()),), ((("0",), ()),), (((None,), ()),),
                      first, None, 3, ""):
            self.refused(thing, "shape", -1)

    def test_shape_ahead_of_all(self):
        self.refused((((9,), ()), (FIRST, None)), "shape", -1)

    def test_path(self):
        first, second, third = RIGHT
        for path in ((3,), (0, 0), (-1,), (5, 5), (10 ** 60,)):
            self.refused((first, (path, ("new",)), third), "path", 1)
            self.refused(((path, ("new",)),), "path", 0)

    def test_path_of_one_that_is_gone(self):
        elder = read_program("fork f { } 0")
        self.refused((RIGHT[0], (F, ("program",))), "path", 1, elder=elder, newer=())

    def test_path_not_above_the_one_ahead(self):
        first, second, third = RIGHT
        self.refused((first, first, second, third), "path", 1)
        self.refused((second, first, third), "path", 1)
        self.refused((first, third, second), "path", 2)
        self.refused((first, second, third, third), "path", 3)

    def test_kept(self):
        first, second, third = RIGHT
        for reason in ((), ("new",), ("program",), ("read", ("cell", 1, 7)), ("kept",)):
            self.refused((first, second, (G, reason), third), "kept", 2)
        self.refused(((FIRST, ("program",)),), "kept", 0, newer=ELDER)

    def test_reason(self):
        first, second, third = RIGHT
        for reason in ((), ("new",), ("read",), ("read", ()), ("program", ()), ("Program",), (None,), (("program",),), ("read", REASONS[0])):
            self.refused(((FIRST, reason), second, third), "reason", 0)
        for reason in ((), ("new",), ("program",), ("read",), ("read", ()), ("read", None), ("read", REASONS[0]), ("read", ("cell", 0, 2)),
                       ("read", ("cell", 1, 7)), ("read", ("slot", "a", 2)), ("read", ("slot", "b", 1)), REASONS[0] + ((),),
                       ("read", list(REASONS[0][1])), ("read", ("cell", 2, [1, 3])), ("read", ("cell", 2, (1, 4))),
                       ("read", ("cell", 2, (True, 3))), ("read", ("cell", False, 1)), ("read", ("cell", 0, True)),
                       ("read", ("slot", "a", True)), ("cell", 0, 1), (["read"], REASONS[0][1]), ("read", ("cell", 0, 1, 1)),
                       ("read", ("cell", 0)), ("read", ("cell", 2, ((1, 3),))), ("read", "cell")):
            self.refused((first, (F, reason), third), "reason", 1)
        for reason in ((), ("program",), ("read", ("cell", 0, 1)), ("new", ()), ("news",)):
            self.refused((first, second, (H, reason)), "reason", 2)

    def test_reason_with_none(self):
        text = "fork g { } 0 fork f { fork h { } 1 g }"
        for wrong in (False, 0, (), ""):
            self.refused(((FIRST, ("program",)), (G, ("read", ("give", 0, "g", wrong)))), "reason", 1,
                         elder=read_program(text + " 0"), newer=read_program(text + " 1 g"))

    def test_few(self):
        first, second, third = RIGHT
        self.refused((), "few", FIRST)
        self.refused((first,), "few", F)
        self.refused((first, second), "few", H)
        self.refused((second, third), "few", FIRST)
        self.refused((third,), "few", FIRST)
        self.refused((first, third), "few", F)

    def test_pair_by_pair(self):
        first, second, third = RIGHT
        self.refused(((FIRST, ()), (G, ())), "reason", 0)
        self.refused((first, (G, ()), ((9,), ())), "kept", 1)
        self.refused((first, ((9,), ()), (G, ())), "path", 1)
        self.refused((second, first), "path", 1)
        self.refused((second, (G, ()), first), "kept", 1)
        self.refused((second, ((1,), ("new",))), "kept", 1)

    def test_first_of_two_of_one_pair(self):
        first, second, third = RIGHT
        # It is KEPT and not above the one ahead; KEPT and with no REASON.
        self.refused((first, third, (G, ("new",))), "path", 2)
        self.refused((first, second, (G, ("news",)), third), "kept", 2)

    def test_few_behind_all(self):
        self.refused(((F, ("new",)),), "reason", 0)
        self.refused(((G, ()),), "kept", 0)


class Drawn(Case):
    def test_as_told_and_spoilt(self):
        chance = random.Random(62)
        words = set()
        for _ in range(300):
            store = drawn_store(chance)
            elder = drawn_program(chance, store)
            newer = drawn_change(chance, store, drawn_change(chance, store, elder))
            reasons, kept = reasons_between(store, elder, newer)
            _, paper = run_again(store, elder, newer)
            programs = {"store": store, "elder": elder, "newer": newer}
            self.lets(paper, len(kept), **programs)
            for at, (path, reason) in enumerate(paper):
                self.refused(paper[:at] + paper[at + 1:], "few", path, **programs)
                self.refused(paper[:at] + ((path, reason + (1,)),) + paper[at + 1:], "reason", at, **programs)
                for known in reasons[path]:
                    self.lets(paper[:at] + ((path, known),) + paper[at + 1:], len(kept), **programs)
                    words.add(str(known[1][0]) if known[0] == "read" else known[0])
            for path in kept:
                spoilt = tuple(sorted(paper + ((path, ("program",)),)))
                self.refused(spoilt, "kept", [each for each, _ in spoilt].index(path), **programs)
        self.assertTrue({"new", "program", "cell", "slot"} <= words, words)
