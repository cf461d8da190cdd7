"""[31]: PROGRAMS with other SLOTS, NAMES and CELLS."""

import copy
import random
import unittest

from forkjoins.plain import plain_run
from forkjoins.programs import is_program
from forkjoins.readings import read_program
from forkjoins.renaming import renamed
from tests.diagrams import fork
from tests.drawing import NAMES, SLOTS, drawn_program, drawn_store
from tests.things import is_plain_told, same

A, B = ("slot", "a"), ("slot", "b")
EACH = (
    ("read", "a", 0), ("has", "a", 1, A), ("write", 0, A), ("add", 2, ("plus", A, B)), ("put", 1, ("minus", A, ("num", 4))),
    ("take", 1, ("less", ("plus", A, A), B)), ("row", 3, B), ("let", "a", B), ("tell", A),
    ("if", A, (("read", "a", 0),), (("tell", ("plus", B, A)), ("write", 0, B))),
    ("fork", "a", (("join", "b", "a"), ("fork", "c", (("tell", A),), ("a",))), ("a", "b")), ("join", "a", "b"), ("fail",),
)


class ByHand(unittest.TestCase):
    def told(self, program, **pairs):
        kept = copy.deepcopy((program, pairs))
        told = renamed(program, **pairs)
        self.assertTrue(is_plain_told(told))
        self.assertTrue(is_program(told))
        self.assertTrue(same(kept[0], program) and kept[1] == pairs)
        return told

    def test_none(self):
        for pairs in ({}, {"slots": ()}, {"names": (), "cells": ()}, {"slots": (), "names": (), "cells": ()}):
            self.assertEqual(self.told(EACH, **pairs), EACH)
            self.assertEqual(self.told((), **pairs), ())
        self.assertEqual(self.told((), slots=(("a", "z"),), names=(("a", "y"),), cells=((0, 9),)), ())

    def test_slots_alone(self):
        self.assertEqual(self.told(EACH, slots=(("a", "z"),)), read_program(
            "read z 0 has z 1 z write 0 z add 2 + z b put 1 - z 4 take 1 < + z z b row 3 b let z b tell z "
            "if z { read z 0 } { tell + b z write 0 b } fork a { join b z fork c { tell z } 1 a } 2 a b join a b fail"))

    def test_names_alone(self):
        self.assertEqual(self.told(EACH, names=(("a", "z"),)), read_program(
            "read a 0 has a 1 a write 0 a add 2 + a b put 1 - a 4 take 1 < + a a b row 3 b let a b tell a "
            "if a { read a 0 } { tell + b a write 0 b } fork z { join b a fork c { tell a } 1 z } 2 b z join z b fail"))

    def test_cells_alone(self):
        self.assertEqual(self.told(EACH, cells=((0, 7), (1, 11))), read_program(
            "read a 7 has a 11 a write 7 a add 2 + a b put 11 - a 4 take 11 < + a a b row 3 b let a b tell a "
            "if a { read a 7 } { tell + b a write 7 b } fork a { join b a fork c { tell a } 1 a } 2 a b join a b fail"))

    def test_together(self):
        told = self.told(EACH, slots=(("a", "z"),), names=(("a", "y"), ("c", "x")), cells=((0, 7), (3, 0)))
        self.assertEqual(told, read_program(
            "read z 7 has z 1 z write 7 z add 2 + z b put 1 - z 4 take 1 < + z z b row 0 b let z b tell z "
            "if z { read z 7 } { tell + b z write 7 b } fork y { join b z fork x { tell z } 1 y } 2 b y join y b fail"))

    def test_numbers_stay(self):
        program = (("tell", ("num", 0)), ("write", 0, ("num", 0)))
        self.assertEqual(self.told(program, cells=((0, 1),)), (("tell", ("num", 0)), ("write", 1, ("num", 0))))

    def test_words_stay(self):
        program = (("tell", ("slot", "tell")), ("fork", "fork", (), ()), ("let", "plus", ("plus", ("slot", "plus"), A)))
        told = self.told(program, slots=(("plus", "slot"), ("tell", "num")), names=(("fork", "join"),))
        self.assertEqual(told, (("tell", ("slot", "num")), ("fork", "join", (), ()),
                                ("let", "slot", ("plus", ("slot", "slot"), A))))

    def test_that_change_places(self):
        swap = (("a", "b"), ("b", "a"))
        self.assertEqual(self.told((("let", "a", B), ("join", "a", "b")), slots=swap), (("let", "b", A), ("join", "a", "a")))
        self.assertEqual(self.told((("join", "a", "b"), ("join", "b", "a")), names=swap),
                         (("join", "b", "b"), ("join", "a", "a")))
        self.assertEqual(self.told((("read", "a", 0), ("read", "a", 1)), cells=((0, 1), (1, 0))),
                         (("read", "a", 1), ("read", "a", 0)))
        round_about = (("a", "b"), ("b", "c"), ("c", "a"))
        self.assertEqual(self.told((("tell", ("plus", A, ("plus", B, ("slot", "c")))),), slots=round_about),
                         (("tell", ("plus", B, ("plus", ("slot", "c"), A))),))

    def test_names_of_a_fork_rise_again(self):
        program = (fork("f", names=("a", "b", "c")),)
        self.assertEqual(self.told(program, names=(("a", "z"),)), (fork("f", names=("b", "c", "z")),))
        self.assertEqual(self.told(program, names=(("a", "c"), ("c", "a"))), program)

    def test_names_of_a_fork_that_come_to_be_one(self):
        program = (fork("f", names=("a", "b", "c")),)
        self.assertEqual(self.told(program, names=(("a", "c"),)), (fork("f", names=("b", "c")),))
        self.assertEqual(self.told(program, names=(("a", "x"), ("b", "x"), ("c", "x"))), (fork("f", names=("x",)),))

    def test_slots_and_names_are_apart(self):
        program = (("join", "a", "a"), fork("a", names=("a",)), ("let", "a", A))
        self.assertEqual(self.told(program, slots=(("a", "s"),), names=(("a", "n"),)),
                         (("join", "n", "s"), fork("n", names=("n",)), ("let", "s", ("slot", "s"))))

    def test_within(self):
        program = (("if", A, (fork("f", ("if", A, (), (("read", "a", 0), ("join", "f", "a")))),), ()),)
        self.assertEqual(self.told(program, slots=(("a", "s"),), names=(("f", "n"),), cells=((0, 5),)), (
            ("if", ("slot", "s"), (fork("n", ("if", ("slot", "s"), (), (("read", "s", 5), ("join", "n", "s")))),), ()),))

    def test_by_names(self):
        self.assertEqual(renamed(cells=((0, 2),), names=(("f", "g"),), program=(("read", "a", 0), fork("f")),
                                 slots=(("a", "b"),)), (("read", "b", 2), fork("g")))


def turned_cells(values, cells):
    """VALUES, each at its newer place."""
    return tuple(has for _, has in sorted((cells[cell], has) for cell, has in enumerate(values)))


def turned_read(entry, slots, names, cells):
    word, *rest = entry
    if word == "cell":
        return ("cell", cells[rest[0]], rest[1])
    if word == "slot":
        return ("slot", slots[rest[0]], rest[1])
    if word == "give":
        return ("give", rest[0], names[rest[1]], rest[2])
    number, name, path, way, merges = rest
    return ("join", number, names[name], path, way, tuple(sorted((cells[cell], *more) for cell, *more in merges)))


def turned_row(row, slots, names, cells):
    path, way, told, reads, written, begin, end = row
    return (path, way, told, tuple(sorted(turned_read(entry, slots, names, cells) for entry in reads)),
            tuple(sorted((cells[cell], has) for cell, has in written)), turned_cells(begin, cells), turned_cells(end, cells))


class RunRows(unittest.TestCase):
    def shuffled(self, chance, things, others):
        """A dict from each thing to an unlike one, and its PAIRS."""
        by_elder = dict(zip(things, chance.sample(others, len(things))))
        return by_elder, tuple(sorted(by_elder.items()))

    def test_renamed_alike(self):
        chance = random.Random(31)
        for _ in range(200):
            store = drawn_store(chance)
            program = drawn_program(chance, store)
            slots, slot_pairs = self.shuffled(chance, SLOTS, SLOTS + ("x", "y", "z"))
            names, name_pairs = self.shuffled(chance, NAMES, NAMES + ("k", "z"))
            cells, cell_pairs = self.shuffled(chance, range(len(store)), range(len(store)))
            newer = renamed(program, slots=slot_pairs, names=name_pairs, cells=cell_pairs)
            self.assertEqual(plain_run(turned_cells(store, cells), newer),
                             tuple(turned_row(row, slots, names, cells) for row in plain_run(store, program)))
            back = [tuple(sorted((newer, elder) for elder, newer in pairs)) for pairs in (slot_pairs, name_pairs, cell_pairs)]
            self.assertEqual(renamed(newer, slots=back[0], names=back[1], cells=back[2]), program)
