"""[4], [5], [7], [25], [26], [27], [28]: the PLAIN RUN, its rows and its PROGRAMS."""

import collections
import random
import unittest

from forkjoins.plain import plain_run, programs_of
from tests.drawing import drawn_has, drawn_program, drawn_store
from tests.model import World
from tests.things import GREAT, is_plain_told

A, B, C = ("slot", "a"), ("slot", "b"), ("slot", "c")
FAIL = ("fail",)
OWN = ("own", ("minus", ("slot", "theirs"), ("slot", "mine")))
STORE = (("plain", 5), ("sum", 10), ("most", 3), ("set", (1, 2)), ("list", (7,)), (OWN, 4))
BEGIN = (5, 10, 3, (1, 2), (7,), 4)


def num(number):
    return ("num", number)


def fork(name, *program, names=()):
    return ("fork", name, program, names)


def end_with(**turned):
    """The VALUES of STORE with some CELLS, c0 and so on, turned."""
    return tuple(turned.get("c" + str(cell), has) for cell, has in enumerate(BEGIN))


class Case(unittest.TestCase):
    maxDiff = None

    def rows(self, *program, store=STORE):
        rows = plain_run(store, program)
        self.assertTrue(is_plain_told(rows))
        return {row[0]: row for row in rows}

    def first(self, *program, store=STORE):
        return self.rows(*program, store=store)[()]

    def told(self, *program, store=STORE):
        return self.first(*program, store=store)[2]

    def reads(self, *program, store=STORE):
        return self.first(*program, store=store)[3]

    def end(self, *program, store=STORE):
        return self.first(*program, store=store)[6]


class EachWord(Case):
    def test_void(self):
        self.assertEqual(plain_run(STORE, ()), (((), "ended", (), (), (), BEGIN, BEGIN),))

    def test_read(self):
        program = []
        for cell in range(6):
            program += [("read", "a", cell), ("tell", A)]
        row = self.first(*program)
        self.assertEqual(row[2], (5, 10, 3, 2, 1, 4))
        self.assertEqual(row[3], tuple(("cell", cell, BEGIN[cell]) for cell in range(6)))
        self.assertEqual(row[4:], ((), BEGIN, BEGIN))

    def test_has(self):
        row = self.first(("has", "a", 3, num(2)), ("tell", A), ("has", "a", 3, num(3)), ("tell", A), ("has", "a", 3, A),
                         ("tell", A), ("let", "a", num(1)), ("has", "a", 3, A), ("tell", A))
        self.assertEqual(row[2], (1, 0, 0, 1))
        self.assertEqual(row[3], (("cell", 3, (1, 2)),))

    def test_write(self):
        row = self.first(("write", 0, num(-4)), ("write", 1, num(6)), ("write", 2, num(1)), ("write", 5, num(9)))
        self.assertEqual(row[3], ())
        self.assertEqual(row[4], ((0, -4), (1, 6), (2, 1), (5, 9)))
        self.assertEqual(row[5:], (BEGIN, end_with(c0=-4, c1=6, c2=1, c5=9)))

    def test_add_put_take_row(self):
        row = self.first(("row", 4, num(7)), ("add", 1, num(-3)), ("put", 3, num(0)), ("take", 3, num(2)), ("add", 1, num(1)))
        self.assertEqual(row[3], (("cell", 1, 10), ("cell", 3, (1, 2)), ("cell", 4, (7,))))
        self.assertEqual(row[4], ((1, 8), (3, (0, 1)), (4, (7, 7))))
        self.assertEqual(row[6], end_with(c1=8, c3=(0, 1), c4=(7, 7)))

    def test_written_also_with_what_it_had(self):
        row = self.first(("write", 0, num(5)), ("add", 1, num(0)), ("put", 3, num(1)), ("take", 3, num(9)))
        self.assertEqual(row[4], ((0, 5), (1, 10), (3, (1, 2))))
        self.assertEqual(row[6], BEGIN)

    def test_let_and_tell(self):
        program = (("let", "a", num(4)), ("tell", ("plus", A, B)), ("let", "a", ("minus", A, num(9))), ("tell", A),
                   ("tell", num(GREAT)), ("tell", A))
        self.assertEqual(self.told(*program), (4, -5, GREAT, -5))

    def test_if_both_ways_and_behind(self):
        for number, way in ((1, 10), (GREAT, 10), (0, 20), (-1, 20)):
            program = (("if", num(number), (("tell", num(10)), ("tell", num(11))), (("tell", num(20)), ("tell", num(21)))),
                       ("tell", num(3)))
            self.assertEqual(self.told(*program), (way, way + 1, 3))
        self.assertEqual(self.told(("if", num(1), (), (FAIL,)), ("tell", num(3))), (3,))
        inner = ("if", num(1), (("tell", num(1)), ("if", num(0), (), (("tell", num(2)),)), ("tell", num(3))), ())
        self.assertEqual(self.told(inner, ("tell", num(4))), (1, 2, 3, 4))

    def test_fail(self):
        row = self.first(("tell", num(1)), ("write", 0, num(1)), ("read", "a", 1), FAIL, ("read", "a", 2))
        self.assertEqual(row, ((), "failed", (), (("cell", 1, 10),), (), BEGIN, ()))
        self.assertEqual(self.first(("if", num(1), (FAIL, ("tell", B)), ()), ("tell", A))[1:4], ("failed", (), ()))


class Forks(Case):
    def test_begins_with_what_the_forker_has(self):
        rows = self.rows(("let", "a", num(3)), ("write", 0, num(6)), fork("f", ("read", "b", 0), ("tell", ("plus", A, B))),
                         ("write", 0, num(7)), ("let", "a", num(9)))
        self.assertEqual(rows[(0,)][:3], ((0,), "ended", (9,)))
        self.assertEqual(rows[(0,)][3], (("cell", 0, 6), ("slot", "a", 3)))
        self.assertEqual(rows[(0,)][4:], ((), end_with(c0=6), end_with(c0=6)))

    def test_nothing_comes_back_without_a_join(self):
        row = self.first(fork("f", ("write", 0, num(1)), ("let", "a", num(4)), ("tell", num(1))), ("tell", A))
        self.assertEqual(row, ((), "ended", (0,), (("slot", "a", 0),), (), BEGIN, BEGIN))

    def test_paths_and_rising_rows(self):
        program = (fork("f", fork("f", fork("f")), fork("g")), fork("g", fork("f")), fork("h"))
        paths = [row[0] for row in plain_run(STORE, program)]
        self.assertEqual(paths, [(), (0,), (0, 0), (0, 0, 0), (0, 1), (1,), (1, 0), (2,)])

    def test_eleven_forks_rise_by_numbers(self):
        paths = [row[0] for row in plain_run(STORE, (fork("f"),) * 11)]
        self.assertEqual(paths, [()] + [(k,) for k in range(11)])

    def test_forks_of_failed_ones_and_what_they_had(self):
        rows = self.rows(fork("f", ("write", 0, num(8)), fork("g", ("read", "a", 0), ("tell", A)), FAIL, fork("g")))
        self.assertEqual(sorted(rows), [(), (0,), (0, 0)])
        self.assertEqual(rows[(0,)], ((0,), "failed", (), (), (), BEGIN, ()))
        self.assertEqual(rows[(0, 0)], ((0, 0), "ended", (8,), (("cell", 0, 8),), (), end_with(c0=8), end_with(c0=8)))


class Joins(Case):
    def test_each_kind_merged(self):
        rows = self.rows(
            fork("f", ("write", 0, num(1)), ("add", 1, num(5)), ("write", 2, num(9)), ("put", 3, num(8)),
                 ("take", 3, num(1)), ("row", 4, num(6)), ("write", 5, num(50))),
            ("write", 0, num(2)), ("add", 1, num(7)), ("write", 2, num(8)), ("put", 3, num(4)), ("row", 4, num(2)),
            ("write", 5, num(20)), ("join", "f", "a"), ("tell", A))
        self.assertEqual(rows[()][6], (1, 22, 9, (2, 4, 8), (7, 2, 6), 30))
        self.assertEqual(rows[()][2], (1,))

    def test_written_by_the_joiner_too(self):
        row = self.first(fork("f", ("write", 0, num(1)), ("add", 1, num(5))), ("join", "f", "a"))
        self.assertEqual(row[4], ((0, 1), (1, 15)))
        rows = self.rows(fork("f", fork("g", ("write", 0, num(1))), ("join", "g", "a")), ("join", "f", "a"))
        self.assertEqual(rows[(0,)][4], ((0, 1),))
        self.assertEqual(rows[()][4], ((0, 1),))

    def test_only_written_cells(self):
        row = self.first(fork("f", ("read", "a", 0)), ("write", 0, num(9)), ("write", 5, num(1)), ("join", "f", "a"))
        self.assertEqual(row[6], end_with(c0=9, c5=1))

    def test_slots_do_not_come_back(self):
        program = (("let", "b", num(2)), fork("f", ("let", "b", num(7))), ("join", "f", "a"), ("tell", B), ("tell", A))
        self.assertEqual(self.told(*program), (2, 1))

    def test_failed_one(self):
        row = self.first(fork("f", ("write", 0, num(1)), FAIL), ("let", "a", num(5)), ("join", "f", "a"), ("tell", A))
        self.assertEqual(row, ((), "ended", (0,), (("join", 0, "f", (0,), "failed", ()),), (), BEGIN, BEGIN))

    def test_no_handle(self):
        row = self.first(("tell", num(1)), ("join", "f", "a"), ("tell", num(2)))
        self.assertEqual(row, ((), "failed", (), (("join", 0, "f", None, "", ()),), (), BEGIN, ()))

    def test_handle_is_used_up(self):
        for inner in ((), (FAIL,)):
            row = self.first(fork("f", *inner), ("join", "f", "a"), ("join", "f", "b"), ("tell", num(1)))
            way = "failed" if inner else "ended"
            self.assertEqual(row[1:4], ("failed", (), (("join", 0, "f", (0,), way, ()), ("join", 1, "f", None, "", ()))))

    def test_newer_handle_of_a_name(self):
        row = self.first(fork("f", ("write", 0, num(1))), fork("f", ("write", 0, num(2))), ("join", "f", "a"))
        self.assertEqual(row[3], (("join", 0, "f", (1,), "ended", ((0, 5, 2),)),))
        self.assertEqual(row[6], end_with(c0=2))

    def test_base_is_the_beginning_of_the_joined_one(self):
        row = self.first(("add", 1, num(100)), fork("f", ("add", 1, num(5))), ("add", 1, num(1)), ("join", "f", "a"))
        self.assertIn(("join", 0, "f", (0,), "ended", ((1, 110, 115),)), row[3])
        self.assertEqual(row[6], end_with(c1=116))

    def test_one_behind_another(self):
        row = self.first(fork("f", ("write", 0, num(1)), ("row", 4, num(1))), fork("g", ("write", 0, num(2)), ("row", 4, num(2))),
                         ("join", "g", "a"), ("join", "f", "a"))
        self.assertEqual(row[6], end_with(c0=1, c4=(7, 2, 1)))


class Handles(Case):
    def test_given_over_by_names(self):
        rows = self.rows(fork("f", ("write", 0, num(8))), fork("g", ("join", "f", "a"), ("tell", A), names=("f",)),
                         ("join", "g", "a"), ("read", "b", 0), ("tell", B))
        self.assertEqual(rows[(1,)][1:3], ("ended", (1,)))
        self.assertEqual(rows[(1,)][4], ((0, 8),))
        self.assertEqual(rows[()][2], (8,))

    def test_forker_has_them_no_more(self):
        row = self.first(fork("f"), fork("g", names=("f",)), ("join", "f", "a"))
        self.assertEqual(row[1], "failed")

    def test_not_given_without_names(self):
        rows = self.rows(fork("f"), fork("g", ("join", "f", "a"), names=("h",)), ("join", "f", "a"))
        self.assertEqual(rows[(1,)][1], "failed")
        self.assertEqual(rows[()][1], "ended")

    def test_name_of_the_fork_among_its_names(self):
        rows = self.rows(fork("f", ("write", 0, num(1))), fork("f", ("join", "f", "a"), names=("f",)), ("join", "f", "a"))
        self.assertEqual(rows[(1,)][3], (("join", 0, "f", (0,), "ended", ((0, 5, 1),)),))
        self.assertEqual(rows[()][3], (("give", 1, "f", (0,)), ("join", 0, "f", (1,), "ended", ((0, 5, 1),))))

    def test_new_one_has_no_handle_to_itself(self):
        self.assertEqual(self.rows(fork("f", ("join", "f", "a")))[(0,)][1], "failed")


class Reads(Case):
    def test_cell_only_while_not_written(self):
        for step in (("read", "a", 1), ("add", 1, num(2))):
            self.assertEqual(self.reads(step), (("cell", 1, 10),))
            self.assertEqual(self.reads(("write", 1, num(3)), step), ())
            self.assertEqual(self.reads(step, ("write", 1, num(3)), step), (("cell", 1, 10),))
        for step in (("has", "a", 3, num(2)), ("put", 3, num(2)), ("take", 3, num(2))):
            self.assertEqual(self.reads(step), (("cell", 3, (1, 2)),))
            self.assertEqual(self.reads(step, ("put", 3, num(5)), step), (("cell", 3, (1, 2)),))
        self.assertEqual(self.reads(("row", 4, num(2))), (("cell", 4, (7,)),))
        self.assertEqual(self.reads(("write", 0, num(3)), ("read", "a", 0)), ())

    def test_cell_is_what_it_began_with(self):
        rows = self.rows(("write", 1, num(3)), fork("f", ("add", 1, num(4)), ("read", "a", 1), fork("g", ("read", "a", 1))))
        self.assertEqual(rows[(0,)][3], (("cell", 1, 3),))
        self.assertEqual(rows[(0, 0)][3], (("cell", 1, 7),))

    def test_cell_merged(self):
        for cell, step in ((0, ("write", 0, num(1))), (1, ("write", 1, num(1))), (2, ("write", 2, num(1))),
                           (3, ("put", 3, num(9))), (4, ("row", 4, num(9))), (5, ("write", 5, num(9)))):
            reads = self.reads(fork("f", step), ("join", "f", "a"))
            self.assertEqual(("cell", cell, BEGIN[cell]) in reads, cell != 0)
            self.assertEqual(len(reads), 1 if cell == 0 else 2)
            again = self.reads(fork("f", step), ("join", "f", "a"), ("read", "b", cell))
            self.assertEqual(again, reads)
        written = self.reads(("write", 1, num(2)), fork("f", ("add", 1, num(1))), ("join", "f", "a"))
        self.assertEqual(written, (("join", 0, "f", (0,), "ended", ((1, 2, 3),)),))

    def test_fork_and_own_sums_look_at_nothing(self):
        self.assertEqual(self.reads(fork("f", ("read", "a", 0), ("tell", B))), ())
        mine = (("own", ("slot", "mine")), 4)
        reads = self.reads(fork("f", ("write", 0, num(1))), ("join", "f", "a"), store=(mine,))
        self.assertEqual(reads, (("cell", 0, 4), ("join", 0, "f", (0,), "ended", ((0, 4, 1),))))

    def test_slot_only_while_not_given(self):
        self.assertEqual(self.reads(("tell", A), ("let", "a", num(2)), ("tell", A)), (("slot", "a", 0),))
        self.assertEqual(self.reads(("let", "a", ("plus", A, num(1)))), (("slot", "a", 0),))
        self.assertEqual(self.reads(("let", "a", num(1)), ("tell", A)), ())
        self.assertEqual(self.reads(("read", "a", 0), ("tell", A)), (("cell", 0, 5),))
        self.assertEqual(self.reads(("has", "a", 3, A), ("tell", A)), (("cell", 3, (1, 2)), ("slot", "a", 0)))
        self.assertEqual(self.reads(fork("f"), ("join", "f", "a"), ("tell", A)), (("join", 0, "f", (0,), "ended", ()),))
        self.assertEqual(self.reads(fork("f", FAIL), ("join", "f", "a"), ("tell", A)),
                         (("join", 0, "f", (0,), "failed", ()),))

    def test_slot_in_each_step_with_a_sum(self):
        for step in (("write", 0, B), ("let", "a", B), ("tell", B), ("if", B, (("tell", C),), ())):
            self.assertEqual(self.reads(step), (("slot", "b", 0),))
        for step, cell in ((("add", 1, B), 1), (("put", 3, B), 3), (("take", 3, B), 3), (("row", 4, B), 4),
                           (("has", "a", 3, B), 3)):
            self.assertEqual(self.reads(step), (("cell", cell, BEGIN[cell]), ("slot", "b", 0)))
        self.assertEqual(self.reads(("tell", ("less", C, ("plus", B, ("slot", "ab"))))),
                         (("slot", "ab", 0), ("slot", "b", 0), ("slot", "c", 0)))

    def test_slot_of_a_new_one(self):
        rows = self.rows(("let", "a", num(6)), fork("f", ("tell", A), ("tell", B), ("let", "a", num(1)), ("tell", A)))
        self.assertEqual(rows[(0,)][3], (("slot", "a", 6), ("slot", "b", 0)))
        rows = self.rows(("let", "a", num(6)), fork("f", ("let", "a", num(1)), fork("g", ("tell", A))))
        self.assertEqual(rows[(0, 0)][3], (("slot", "a", 1),))

    def test_give(self):
        rows = self.rows(fork("f"), fork("g", names=("f", "h")), fork("h", names=("f", "g")))
        self.assertEqual(rows[()][3], (("give", 1, "f", (0,)), ("give", 1, "h", None), ("give", 2, "f", None),
                                       ("give", 2, "g", (1,))))
        self.assertEqual([rows[(k,)][3] for k in range(3)], [(), (), ()])

    def test_joins_are_counted_and_merges_rise(self):
        row = self.first(fork("f", ("row", 4, num(1)), ("write", 0, num(2)), ("add", 1, num(3))), fork("g"),
                         ("join", "g", "a"), ("join", "f", "a"), ("join", "h", "a"))
        self.assertEqual(row[3], (
            ("cell", 1, 10), ("cell", 4, (7,)), ("join", 0, "g", (1,), "ended", ()),
            ("join", 1, "f", (0,), "ended", ((0, 5, 2), (1, 10, 13), (4, (7,), (7, 1)))), ("join", 2, "h", None, "", ())))
        self.assertEqual(row[1], "failed")

    def test_reads_rise_through_all_forms(self):
        row = self.first(("tell", B), ("read", "a", 2), fork("f"), fork("g", names=("f",)), ("join", "g", "a"), ("read", "c", 0))
        self.assertEqual(row[3], (("cell", 0, 5), ("cell", 2, 3), ("give", 1, "f", (0,)),
                                  ("join", 0, "g", (1,), "ended", ()), ("slot", "b", 0)))

    def test_more_than_ten_joins_rise_by_numbers(self):
        program = (fork("f"), ("join", "f", "a")) * 11
        self.assertEqual([entry[1] for entry in self.reads(*program)], list(range(11)))


class Drawn(Case):
    """(M1): whoever's step is next, all is as in the PLAIN RUN; a second telling of [4] says so."""

    def test_as_the_second_telling_at_any_pace(self):
        chance = random.Random(9)
        seen = collections.Counter()
        for _ in range(400):
            store = drawn_store(chance)
            program = drawn_program(chance, store)
            rows = plain_run(store, program)
            self.assertTrue(is_plain_told(rows))
            for _ in range(3):
                world = World(store, program, chance)
                self.assertEqual(rows, world.told(lambda hand: hand.row()))
                self.assertEqual(programs_of(store, program), world.told(lambda hand: (hand.path, hand.program)))
            seen.update(row[1] for row in rows)
            seen.update(entry[0] for row in rows for entry in row[3])
            seen.update("merged" for row in rows for entry in row[3] if entry[0] == "join" and entry[5])
        for word in ("ended", "failed", "cell", "slot", "give", "join", "merged"):
            self.assertGreater(seen[word], 50, word)

    def test_asked_twice(self):
        chance = random.Random(10)
        for _ in range(30):
            store = drawn_store(chance)
            program = drawn_program(chance, store)
            self.assertEqual(plain_run(store, program), plain_run(store, program))

    def test_same_program_and_reads_do_the_same(self):
        chance = random.Random(11)
        met = 0
        for _ in range(60):
            store = drawn_store(chance)
            program = drawn_program(chance, store, 2, 4)
            did = {}
            for _ in range(12):
                other = tuple((kind, drawn_has(chance, kind)) for kind, _ in store)
                rows = plain_run(other, program)
                run = dict(programs_of(other, program))
                for path, way, told, reads, written, begin, end in rows:
                    forked = [run[p][:] for p in sorted(run) if len(p) == len(path) + 1 and p[:-1] == path]
                    doing = (way, told, written, forked)
                    met += (path, run[path], reads) in did
                    self.assertEqual(did.setdefault((path, run[path], reads), doing), doing)
                    if way == "ended":
                        laid = dict(enumerate(begin)) | dict(written)
                        self.assertEqual(end, tuple(laid[cell] for cell in range(len(begin))))
        self.assertGreater(met, 300)


class Programs(Case):
    def test_programs_of(self):
        inner = (("tell", A),)
        program = (fork("f", fork("g", *inner), FAIL, fork("h")), ("if", num(0), (fork("f"),), (fork("f", ("tell", B)),)))
        told = programs_of(STORE, program)
        self.assertEqual(told, (((), program), ((0,), program[0][2]), ((0, 0), inner), ((1,), (("tell", B),))))
        self.assertTrue(is_plain_told(told))
        self.assertEqual(programs_of(STORE, ()), (((), ()),))

    def test_by_names(self):
        self.assertEqual(plain_run(program=(FAIL,), store=STORE), plain_run(STORE, (FAIL,)))
        self.assertEqual(programs_of(program=(FAIL,), store=STORE), (((), (FAIL,)),))
