"""[32]: PROGRAMS written as texts."""

import copy
import unittest

from forkjoins.texts import shown_program
from tests.things import SUM_FORMS, same

A, B = ("slot", "a"), ("slot", "b")
DOCUMENTS = (("read", "a", 0), ("fork", "f", (("add", 0, A),), ("g",)), ("join", "f", "b"))
EACH = (
    (("read", "a", 0), "read a 0"),
    (("has", "a", 12, ("num", 3)), "has a 12 3"),
    (("write", 0, ("num", -4)), "write 0 -4"),
    (("add", 3, A), "add 3 a"),
    (("put", 1, ("plus", A, B)), "put 1 + a b"),
    (("take", 1, ("minus", A, B)), "take 1 - a b"),
    (("row", 7, ("less", A, B)), "row 7 < a b"),
    (("let", "abcdefgh", ("num", 0)), "let abcdefgh 0"),
    (("tell", A), "tell a"),
    (("if", A, (("fail",), ("tell", B)), (("read", "a", 0),)), "if a { fail tell b } { read a 0 }"),
    (("fork", "f", (("fail",), ("tell", A)), ("g", "h")), "fork f { fail tell a } 2 g h"),
    (("join", "f", "a"), "join f a"),
    (("fail",), "fail"),
)
# How a SUM is written: of each form, with NUMBERS of up to twelve figures, within one another.
SUMS = (
    (("num", 0), "0"), (("num", 7), "7"), (("num", -7), "-7"), (("num", 10), "10"), (("num", 999999999999), "999999999999"),
    (("num", -999999999999), "-999999999999"), (("num", 100000000000), "100000000000"), (A, "a"),
    (("slot", "read"), "read"), (("plus", ("num", -1), ("num", 1)), "+ -1 1"),
    (("minus", ("minus", A, B), ("num", -3)), "- - a b -3"),
    (("minus", A, ("minus", B, ("num", 3))), "- a - b 3"),
    (("less", ("plus", A, ("minus", A, B)), ("less", ("plus", B, ("num", 5)), ("num", 0))), "< + a - a b < + b 5 0"),
)


class Shown(unittest.TestCase):
    def shown(self, program, text):
        kept = copy.deepcopy(program)
        told = shown_program(program)
        self.assertIs(type(told), str)
        self.assertEqual(told, text)
        self.assertTrue(same(kept, program))

    def test_void(self):
        self.shown((), "")

    def test_the_documents_own(self):
        self.shown(DOCUMENTS, "read a 0 fork f { add 0 a } 1 g join f b")

    def test_each_step(self):
        for step, text in EACH:
            self.shown((step,), text)
            self.shown((step, step), text + " " + text)
        self.shown(tuple(step for step, _ in EACH), " ".join(text for _, text in EACH))

    def test_void_programs_and_names_within(self):
        self.shown((("if", A, (), ()),), "if a { } { }")
        self.shown((("fork", "f", (), ()),), "fork f { } 0")
        self.shown((("fork", "f", (("if", A, (), (("fork", "g", (), ("f",)),)),), ()), ("fail",)),
                   "fork f { if a { } { fork g { } 1 f } } 0 fail")

    def test_sums(self):
        for amount, text in SUMS:
            self.shown((("tell", amount),), "tell " + text)
        self.assertEqual([shown_program((("tell", amount),)) for amount in SUM_FORMS],
                         ["tell 3", "tell a", "tell + 1 a", "tell - 1 a", "tell < 1 a"])

    def test_beyond_what_is_read(self):
        """[32] has no bounds: those of [33] are the reader's."""
        names = tuple("abcdefghijklmnop")
        self.shown((("fork", "f", (), names),), "fork f { } 16 a b c d e f g h i j k l m n o p")
        self.shown((("tell", ("num", -10 ** 60)),), "tell -1" + "0" * 60)
        program = ()
        for _ in range(8):
            program = (("fork", "f", program, ()),)
        self.shown(program, "fork f { " * 7 + "fork f { } 0" + " } 0" * 7)

    def test_by_names(self):
        self.assertEqual(shown_program(program=(("fail",),)), "fail")
