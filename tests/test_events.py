"""[49], [50]: EVENTS, and which are AHEAD."""

import copy
import random
import unittest

from forkjoins.diagram import diagram
from forkjoins.events import comes_ahead, events
from forkjoins.readings import read_program
from tests.diagrams import ahead_in
from tests.drawing import drawn_program, drawn_store
from tests.things import any_things, is_plain_told, refusal_of, same

STORE = (("plain", 5), ("sum", 7), ("set", (1,)), ("list", ()))
F, G = (0,), (1,)
TEXT = "read a 0 fork f { write 0 1 tell 1 read a 1 } 0 add 1 2 let a 1 join f a tell 1 fork g { tell 1 } 0 join g a join h a"
ROWS = (
    ((), 0, "read", 0), ((), 1, "fork", F), ((), 2, "add", 1), ((), 3, "join", F), ((), 4, "fork", G), ((), 5, "join", G),
    (F, 0, "write", 0), (F, 1, "read", 1),
)


class Case(unittest.TestCase):
    def events(self, text, store=STORE):
        program = read_program(text)
        kept = copy.deepcopy((store, program))
        told = events(store, program)
        self.assertTrue(is_plain_told(told))
        self.assertTrue(same((store, program), kept))
        return told


class Events(Case):
    def test_ordinary(self):
        self.assertTrue(same(self.events(TEXT), ROWS))

    def test_void(self):
        self.assertEqual(self.events(""), ())
        self.assertEqual(self.events("tell 1 let a 2 if 1 { } { }"), ())

    def test_each_word(self):
        text = ("read a 0 has a 2 1 write 0 1 add 1 1 put 2 1 take 2 9 row 3 1 let a 1 tell 1 "
                "if 1 { read a 3 } { read a 0 } fork f { } 0 join f a fail read a 0")
        self.assertEqual([row[2:] for row in self.events(text)], [
            ("read", 0), ("has", 2), ("write", 0), ("add", 1), ("put", 2), ("take", 2), ("row", 3), ("read", 3), ("fork", F),
            ("join", F)])
        self.assertEqual([row[:2] for row in self.events(text)], [((), n) for n in range(10)])

    def test_join_without_a_handle_is_none(self):
        self.assertEqual(self.events("write 0 1 join f a write 0 1"), (((), 0, "write", 0),))

    def test_join_of_a_failed_one_is_one(self):
        self.assertEqual(self.events("fork f { fail } 0 join f a"), (((), 0, "fork", F), ((), 1, "join", F)))

    def test_of_a_failed_one(self):
        self.assertEqual(self.events("fork f { write 0 1 fork g { read a 1 } 0 fail write 1 1 } 0"), (
            ((), 0, "fork", F), (F, 0, "write", 0), (F, 1, "fork", (0, 0)), ((0, 0), 0, "read", 1)))

    def test_of_lost_ones(self):
        self.assertEqual(self.events("fork f { read a 0 } 0 fork f { read a 1 } 0"), (
            ((), 0, "fork", F), ((), 1, "fork", G), (F, 0, "read", 0), (G, 0, "read", 1)))

    def test_rising(self):
        text = "fork f { fork g { read a 0 } 0 } 0 " + "fork f { read a 1 } 0 " * 10 + "read a 0"
        rows = self.events(text)
        self.assertEqual(list(rows), sorted(rows))
        self.assertEqual([row[0] for row in rows], [()] * 12 + [F, (0, 0)] + [(k,) for k in range(1, 11)])

    def test_drawn(self):
        chance = random.Random(49)
        for _ in range(150):
            store = drawn_store(chance)
            program = drawn_program(chance, store)
            wanted = []
            for path, noted in diagram(store, program):
                kept = [event for event in noted if event[0] not in ("let", "tell", "if", "fail") and event != ("join", None)]
                wanted += [(path, n) + event for n, event in enumerate(kept)]
            self.assertEqual(events(store, program), tuple(wanted))

    def test_by_names(self):
        self.assertEqual(events(program=read_program(TEXT), store=STORE), ROWS)
        self.assertIs(comes_ahead(other=(F, 0), one=((), 0), program=read_program(TEXT), store=STORE), True)


class Ahead(Case):
    def check(self, text, *pairs):
        """These pairs of names, and no others, are AHEAD."""
        program = read_program(text)
        names = [row[:2] for row in self.events(text)]
        found = [(one, other) for one in names for other in names if comes_ahead(STORE, program, one, other)]
        self.assertEqual(sorted(found), sorted(pairs))

    def test_along_one_revision(self):
        self.check("read a 0 tell 1 write 0 1 read a 0", (((), 0), ((), 1)), (((), 0), ((), 2)), (((), 1), ((), 2)))

    def test_fork_and_join(self):
        program = read_program(TEXT)
        for one, other in ((((), 0), (F, 0)), (((), 1), (F, 0)), (((), 1), (F, 1)), ((F, 0), (F, 1)), ((F, 1), ((), 3)),
                           ((F, 0), ((), 3)), ((F, 0), ((), 5)), (((), 4), ((), 5)), (((), 0), ((), 5))):
            self.assertIs(comes_ahead(STORE, program, one, other), True, (one, other))
            self.assertIs(comes_ahead(STORE, program, other, one), False, (one, other))

    def test_beside(self):
        program = read_program(TEXT)
        for one in (((), 2),):
            for other in ((F, 0), (F, 1)):
                self.assertIs(comes_ahead(STORE, program, one, other), False)
                self.assertIs(comes_ahead(STORE, program, other, one), False)

    def test_none_is_ahead_of_itself(self):
        for name in [row[:2] for row in ROWS]:
            self.assertIs(comes_ahead(STORE, read_program(TEXT), name, name), False)

    def test_not_joined(self):
        self.check("fork f { read a 0 } 0 write 0 1", (((), 0), ((), 1)), (((), 0), (F, 0)))

    def test_joined_one_without_events(self):
        self.check("fork f { tell 1 } 0 join f a", (((), 0), ((), 1)))
        # The handle is given over: G joins F, which has none.
        self.check("fork f { } 0 fork g { join f a read a 0 } 1 f write 0 1",
                   (((), 0), ((), 1)), (((), 0), ((), 2)), (((), 1), ((), 2)), (((), 0), (G, 0)), (((), 0), (G, 1)),
                   (((), 1), (G, 0)), (((), 1), (G, 1)), ((G, 0), (G, 1)))

    def test_joined_by_another_one(self):
        program = read_program("fork f { write 0 1 } 0 fork g { read a 0 join f a read a 0 } 1 f write 0 1 join g a")
        self.assertIs(comes_ahead(STORE, program, (F, 0), (G, 0)), False)
        self.assertIs(comes_ahead(STORE, program, (F, 0), (G, 1)), True)
        self.assertIs(comes_ahead(STORE, program, (F, 0), (G, 2)), True)
        self.assertIs(comes_ahead(STORE, program, (F, 0), ((), 2)), False)
        self.assertIs(comes_ahead(STORE, program, (F, 0), ((), 3)), True)

    def test_all_pairs_of_drawn_ones(self):
        """As LINKS of the DIAGRAM lead from POINT to POINT."""
        chance = random.Random(50)
        many = 0
        for _ in range(120):
            store = drawn_store(chance)
            program = drawn_program(chance, store, 2, 4)
            drawn = diagram(store, program)
            ahead = ahead_in(drawn)
            points = [(path, place) for path, noted in drawn for place, event in enumerate(noted)
                      if len(event) == 2 and event[1] is not None]
            names = [row[:2] for row in events(store, program)]
            self.assertEqual(len(points), len(names))
            for one, name in zip(points, names):
                for other, second in zip(points, names):
                    told = comes_ahead(store, program, name, second)
                    self.assertIs(told, (one, other) in ahead)
                    many += told
        self.assertGreater(many, 200)


class Refused(Case):
    PROGRAM = read_program(TEXT)
    WRONG = any_things() + [
        ((), 6), ((), -1), (F, 2), (G, 0), ((2,), 0), ((0, 0), 0), (), ((),), ((), 0, 0), [(), 0], ([], 0), ([0], 0), ((), False),
        ((False,), 0), ((True,), 0), (F, True), (F, False), ((), None), ((), "0"), (None, 0), (0, 0), ("", 0), ((), (0,)), 0,
        (((),), 0), ((), [0])]

    def refused(self, one, other, thing):
        told = refusal_of(comes_ahead, STORE, self.PROGRAM, one, other)
        self.assertEqual(told[0], "NoRevision")
        self.assertIs(told[1], thing)

    def test_very_thing(self):
        for wrong in self.WRONG:
            if same(wrong, ((), 1)):
                continue
            kept = copy.deepcopy(wrong)
            self.refused(wrong, ((), 0), wrong)
            self.refused(((), 0), wrong, wrong)
            self.assertTrue(same(wrong, kept))

    def test_the_one_ahead_of_the_other(self):
        one, other = [1], [2]
        self.refused(one, other, one)
        self.refused(other, one, other)

    def test_no_events_at_all(self):
        name = ((), 0)
        told = refusal_of(comes_ahead, STORE, (), name, name)
        self.assertEqual(told, ("NoRevision", name))
