"""[28]: the row of a PATH, and who is LOST."""

import copy
import random
import unittest

from forkjoins.errors import NoRevision
from forkjoins.plain import plain_run
from forkjoins.rows import lost, row_of
from tests.drawing import drawn_program, drawn_store
from tests.model import World
from tests.things import any_things, is_plain_told, same

STORE = (("plain", 5), ("sum", 1))
FAIL = ("fail",)


def fork(name, *program, names=()):
    return ("fork", name, program, names)


class RowOf(unittest.TestCase):
    ROWS = plain_run(STORE, (fork("f", fork("g", fork("h"))), fork("f", FAIL), ("tell", ("num", 4))))

    def test_each_path(self):
        for row in self.ROWS:
            self.assertEqual(row_of(self.ROWS, row[0]), row)
            self.assertTrue(is_plain_told(row_of(self.ROWS, row[0])))
        self.assertEqual(row_of(self.ROWS, ())[2], (4,))
        self.assertEqual(row_of(path=(1,), rows=self.ROWS)[1], "failed")

    def test_no_revision(self):
        for path in any_things() + [(2,), (-1,), (0, 1), (1, 0), (0, 0, 0, 0), [], [0], (True,), (False,), (0, False),
                                    (False, 0), (True, 0), 0, 1, "", "()", ([0],), ((0,),), ((),), (0, None), ("0",)]:
            kept = copy.deepcopy(path)
            with self.assertRaises(NoRevision) as caught:
                row_of(self.ROWS, path)
            self.assertIs(caught.exception.path, path)
            self.assertTrue(same(path, kept))


class Lost(unittest.TestCase):
    def test_by_the_name_given_anew(self):
        self.assertEqual(lost(STORE, (fork("f"), fork("f"), ("join", "f", "a"))), ((0,),))
        self.assertEqual(lost(STORE, (fork("f"), fork("g"), ("join", "f", "a"), ("join", "g", "a"))), ())
        self.assertEqual(lost(STORE, (fork("f"), ("join", "f", "a"), fork("f"), ("join", "f", "a"))), ())

    def test_by_those_who_are_through(self):
        self.assertEqual(lost(STORE, (fork("f"),)), ((0,),))
        self.assertEqual(lost(STORE, (fork("f"), fork("g"), FAIL, ("join", "f", "a"))), ((0,), (1,)))
        self.assertEqual(lost(STORE, (fork("g"), fork("f"))), ((0,), (1,)))
        self.assertEqual(lost(STORE, (fork("f", fork("g"), fork("h"), ("join", "g", "a")), ("join", "f", "a"))), ((0, 1),))
        self.assertEqual(lost(STORE, (fork("f"), ("join", "g", "a"))), ((0,),))

    def test_by_handles_given_over(self):
        self.assertEqual(lost(STORE, (fork("f"), fork("g", names=("f",)), ("join", "g", "a"))), ((0,),))
        given = fork("g", ("join", "f", "a"), names=("f",))
        self.assertEqual(lost(STORE, (fork("f"), given, ("join", "g", "a"))), ())
        self.assertEqual(lost(STORE, (fork("f"), fork("f", ("join", "f", "a"), names=("f",)), ("join", "f", "a"))), ())
        self.assertEqual(lost(STORE, (fork("f"), fork("g", fork("f"), FAIL, names=("f",)), ("join", "g", "a"))), ((0,), (1, 0)))

    def test_none_and_failed_ones(self):
        self.assertEqual(lost(STORE, ()), ())
        self.assertEqual(lost(STORE, (fork("f", FAIL), ("join", "f", "a"))), ())
        self.assertEqual(lost(program=(fork("f", FAIL),), store=STORE), ((0,),))

    def test_each_but_the_first_is_joined_once_or_lost_once(self):
        chance = random.Random(12)
        many = 0
        for _ in range(300):
            store = drawn_store(chance)
            program = drawn_program(chance, store)
            rows = plain_run(store, program)
            told = lost(store, program)
            self.assertTrue(is_plain_told(told))
            self.assertEqual(told, tuple(sorted(set(told))))
            joined = [entry[3] for row in rows for entry in row[3] if entry[0] == "join" and entry[3] is not None]
            self.assertEqual(sorted(joined + list(told)), [row[0] for row in rows[1:]])
            self.assertEqual(told, tuple(sorted(World(store, program, chance).lost)))
            many += len(told)
        self.assertGreater(many, 100)
