"""[3], [24]: STEPS, PROGRAMS, what they go with and what they fit."""

import copy
import random
import unittest

from forkjoins import programs
from forkjoins.programs import cells_of, fits, goes_with, is_program, is_step
from tests.drawing import drawn_program, drawn_store
from tests.things import OWN, any_things, deep_sum, is_plain_told, same

A, ONE = ("slot", "a"), ("num", 1)
FAIL = ("fail",)
STEPS = (
    ("read", "a", 0), ("has", "a", 0, ONE), ("write", 0, ONE), ("add", 0, A), ("put", 0, ONE), ("take", 0, ONE),
    ("row", 0, ONE), ("let", "a", ONE), ("tell", ONE), ("if", A, (FAIL,), ()), ("fork", "f", (FAIL,), ("f", "g")),
    ("join", "f", "a"), FAIL,
)
NO_SUMS = (1, "a", None, True, (), ["num", 1], ("num", True), ("num",), ("num", 1, 1), ("slot", "A"), ("plus", ONE),
           ("plus", ONE, ["num", 1]), deep_sum(("num", True), 30))
NO_WORDS = ("", "A", "abcdefghi", "a1", "a b", "a\n", 1, None, True, ("a",), ["a"])
NO_CELLS = (-1, True, False, None, "0", (0,), [0], ())
NO_NAMES = (None, "f", 1, True, ["f"], ("g", "f"), ("f", "f"), ("F",), ("",), (1,), ("f", 1), ("f", None), (("f",),),
            ("abcdefghi",), ("f", "g", "g"))
NO_PROGRAMS = (None, True, 1, "", "fail", [], [FAIL], FAIL, (None,), ((),), (FAIL, []), (["fail"],), (FAIL, ("fail", 1)))


def wrong_steps():
    """Things that are nearly STEPS."""
    wrong = [("read",), ("Read", "a", 0), ("reads", "a", 0), ("", "a", 0), (None, "a", 0), (1,), (["fail"],), (("fail",),)]
    for step in STEPS:
        wrong += [step + (1,), step + ((),), step + (ONE,), step[:-1], list(step), ("x" + step[0],) + step[1:]]
    wrong += [("read", word, 0) for word in NO_WORDS] + [("read", "a", cell) for cell in NO_CELLS]
    wrong += [("has", word, 0, ONE) for word in NO_WORDS] + [("has", "a", cell, ONE) for cell in NO_CELLS]
    wrong += [("has", "a", 0, amount) for amount in NO_SUMS]
    for word in ("write", "add", "put", "take", "row"):
        wrong += [(word, cell, ONE) for cell in NO_CELLS] + [(word, 0, amount) for amount in NO_SUMS]
    wrong += [("let", word, ONE) for word in NO_WORDS] + [("let", "a", amount) for amount in NO_SUMS]
    wrong += [("tell", amount) for amount in NO_SUMS]
    wrong += [("if", amount, (), ()) for amount in NO_SUMS]
    wrong += [("if", ONE, program, ()) for program in NO_PROGRAMS] + [("if", ONE, (), program) for program in NO_PROGRAMS]
    wrong += [("fork", word, (), ()) for word in NO_WORDS] + [("fork", "f", program, ()) for program in NO_PROGRAMS]
    wrong += [("fork", "f", (), names) for names in NO_NAMES]
    wrong += [("join", word, "a") for word in NO_WORDS] + [("join", "f", word) for word in NO_WORDS]
    wrong += [("read", 0, "a"), ("write", ONE, 0), ("fork", "f", ("f",), ()), ("fork", "f", (), (), ()), ("fail", None)]
    return wrong


class IsStep(unittest.TestCase):
    def test_each_form(self):
        for step in STEPS + (("read", "abcdefgh", 10 ** 30), ("fork", "f", (), ()), ("if", ONE, (), ())):
            self.assertIs(is_step(step), True, step)
            self.assertIs(is_program((step,)), True, step)
        self.assertIs(is_program(STEPS), True)
        self.assertIs(is_program(()), True)

    def test_near_things_at_any_depth(self):
        for wrong in wrong_steps():
            if same(wrong, FAIL):
                continue
            self.assertIs(is_step(wrong), False, wrong)
            for program in ((wrong,), (FAIL, wrong), (wrong, FAIL)):
                self.assertIs(is_program(program), False, wrong)
                for step in (("if", ONE, program, ()), ("if", ONE, (), program), ("fork", "f", program, ())):
                    self.assertIs(is_step(step), False, wrong)
                    self.assertIs(is_step(("if", ONE, (), (FAIL, ("fork", "f", (step,), ())))), False, wrong)

    def test_programs_and_steps_are_unlike(self):
        for step in STEPS:
            self.assertIs(is_program(step), False)
            self.assertIs(is_step((step,)), False)
        self.assertIs(is_step(()), False)
        self.assertIs(is_program(list(STEPS)), False)
        self.assertIs(is_program([]), False)

    def test_no_bounds(self):
        program = ()
        for _ in range(18):
            program = (("fork", "f", program, ()),)
        self.assertIs(is_program(program), True)
        self.assertIs(is_program(STEPS * 50), True)
        self.assertIs(is_step(("tell", deep_sum(ONE, 38))), True)
        self.assertIs(is_step(("tell", ("num", 10 ** 199))), True)

    def test_other_things(self):
        for thing in any_things() + [0, 1, "fail", [FAIL], ["fail"]]:
            kept = copy.deepcopy(thing)
            self.assertIs(is_step(thing), False)
            self.assertIs(is_program(thing), False)
            self.assertTrue(same(thing, kept))

    def test_drawn(self):
        chance = random.Random(8)
        for _ in range(100):
            store = drawn_store(chance)
            program = drawn_program(chance, store)
            self.assertIs(is_program(program), True)
            self.assertIs(goes_with(program, store), True)

    def test_by_name(self):
        self.assertIs(is_step(thing=FAIL), True)
        self.assertIs(is_program(thing=(FAIL,)), True)


class GoesWith(unittest.TestCase):
    STORE = (("plain", 1), ("sum", 1), ("most", 1), ("set", (1,)), ("list", (1,)), (OWN, 1))
    GOES = {"read": (0, 1, 2, 3, 4, 5), "has": (3,), "write": (0, 1, 2, 5), "add": (1,), "put": (3,), "take": (3,),
            "row": (4,)}

    def step(self, word, cell):
        return {"read": ("read", "a", cell), "has": ("has", "a", cell, ONE)}.get(word, (word, cell, ONE))

    def within(self, step):
        """The STEP by itself, and in PROGRAMS of other STEPS."""
        yield (step,)
        yield (("tell", ONE), step)
        yield (("if", ONE, (step,), ()),)
        yield (("if", ONE, (), (step,)),)
        yield (("fork", "f", (step,), ()), FAIL)
        yield (FAIL, ("if", ONE, (("fork", "f", (FAIL, ("if", ONE, (), (step,))), ()),), ()))

    def test_each_word_with_each_kind(self):
        for word, cells in self.GOES.items():
            for cell in range(6):
                for program in self.within(self.step(word, cell)):
                    self.assertIs(goes_with(program, self.STORE), cell in cells, (word, cell))

    def test_a_cell_that_is_not_there(self):
        for word in self.GOES:
            for cell in (6, 7, 10 ** 30):
                for program in self.within(self.step(word, cell)):
                    self.assertIs(goes_with(program, self.STORE), False)
        self.assertIs(goes_with((("read", "a", 5),), self.STORE), True)
        self.assertIs(goes_with((("read", "a", 0),), self.STORE[:1]), True)
        self.assertIs(goes_with((("read", "a", 1),), self.STORE[:1]), False)

    def test_without_cells(self):
        for program in ((), (FAIL,), (("join", "f", "a"), ("let", "a", ONE), ("tell", A))):
            self.assertIs(goes_with(program, self.STORE[:1]), True)

    def test_by_names(self):
        self.assertIs(goes_with(store=self.STORE, program=(("add", 1, ONE),)), True)


class CellsOf(unittest.TestCase):
    def test_each_word(self):
        program = (("read", "a", 9), ("has", "a", 8, ONE), ("write", 7, ONE), ("add", 6, ONE), ("put", 5, ONE),
                   ("take", 4, ONE), ("row", 3, ONE), ("let", "a", ("num", 2)), ("tell", ONE), FAIL, ("join", "f", "a"))
        self.assertEqual(cells_of(program), (3, 4, 5, 6, 7, 8, 9))
        self.assertEqual(cells_of(program, written=False), (3, 4, 5, 6, 7, 8, 9))
        self.assertEqual(cells_of(program, written=True), (3, 4, 5, 6, 7))
        self.assertTrue(is_plain_told(cells_of(program)))

    def test_within(self):
        program = (("if", A, (("read", "a", 5), ("write", 2, ONE)), (("write", 1, ONE),)),
                   ("fork", "f", (("fork", "g", (("add", 4, ONE),), ()), ("read", "a", 2)), ()), ("read", "a", 0))
        self.assertEqual(cells_of(program), (0, 1, 2, 4, 5))
        self.assertEqual(cells_of(written=True, program=program), (1, 2, 4))

    def test_none(self):
        self.assertEqual(cells_of(()), ())
        self.assertEqual(cells_of((("read", "a", 64), ("read", "a", 1), ("write", 32, ONE))), (1, 32, 64))
        self.assertEqual(cells_of((("tell", ONE),)), ())
        self.assertEqual(cells_of((("read", "a", 3),), written=True), ())
        with self.assertRaises(TypeError):
            cells_of((), True)


def forks_within(deep):
    """A PROGRAM that is so DEEP, by "fork" and "if" in turn."""
    program = ()
    for turn in range(deep - 1):
        program = (("fork", "f", program, ()),) if turn % 2 else (("if", ONE, (), program),)
    return program


class Fits(unittest.TestCase):
    def test_bounds(self):
        self.assertEqual((programs.MOST_STEPS, programs.MOST_DEEP, programs.MOST_FORKS), (30, 5, 12))

    def test_steps(self):
        self.assertIs(fits((FAIL,) * 30), True)
        self.assertIs(fits((FAIL,) * 31), False)
        self.assertIs(fits((FAIL,) * 3, most=3), True)
        self.assertIs(fits((FAIL,) * 3, most=2), False)
        self.assertIs(fits((), most=0), True)
        self.assertIs(fits((FAIL,), most=0), False)

    def test_steps_within(self):
        for wrap in (("if", ONE, (FAIL,) * 14, (FAIL,) * 14), ("fork", "f", (FAIL,) * 28, ())):
            self.assertIs(fits((FAIL, wrap)), True)
            self.assertIs(fits((FAIL, wrap, FAIL)), False)
        self.assertIs(fits((("if", ONE, (FAIL,), (FAIL,)),), most=3), True)
        self.assertIs(fits((("if", ONE, (FAIL,), (FAIL,)),), most=2), False)

    def test_deep(self):
        for deep in range(1, 8):
            self.assertIs(fits(forks_within(deep)), deep <= 5)
            self.assertIs(fits(forks_within(deep), deep=deep), True)
            self.assertIs(fits(forks_within(deep), deep=deep - 1), False)
        self.assertIs(fits((FAIL, ("if", ONE, forks_within(4), ()), FAIL)), True)
        self.assertIs(fits((FAIL, ("if", ONE, forks_within(5), ()), FAIL)), False)
        self.assertIs(fits((FAIL, ("if", ONE, (), forks_within(5)), FAIL)), False)
        self.assertIs(fits((("fork", "f", forks_within(5), ()), ("fork", "f", (), ()))), False)
        self.assertIs(fits((), deep=0), False)

    def test_forks(self):
        fork = ("fork", "f", (), ())
        self.assertIs(fits((fork,) * 12), True)
        self.assertIs(fits((fork,) * 13), False)
        self.assertIs(fits((fork, ("fork", "f", (fork,), ())), forks=3), True)
        self.assertIs(fits((fork, ("fork", "f", (fork,), ())), forks=2), False)
        self.assertIs(fits((("if", ONE, (fork,), (fork,)),), forks=2), True)
        self.assertIs(fits((("if", ONE, (fork,), (fork,)),), forks=1), False)
        self.assertIs(fits((FAIL,), forks=0), True)
        self.assertIs(fits((fork,), forks=0), False)
        self.assertIs(fits((fork,) * 13, forks=13), True)

    def test_by_names_alone(self):
        self.assertIs(fits(forks=0, deep=1, most=1, program=(FAIL,)), True)
        with self.assertRaises(TypeError):
            fits((FAIL,), 1, 1, 1)
