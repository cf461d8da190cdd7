"""[60], [61], [63]: who is run AGAIN, why, and who is GONE."""

import copy
import random
import unittest

from forkjoins.again import gone, run_again
from forkjoins.plain import plain_run, programs_of
from forkjoins.readings import read_program
from tests.drawing import drawn_program, drawn_step, drawn_store
from tests.things import is_plain_told, same

STORE = (("plain", 5), ("sum", 7), ("set", (1,)), ("list", ()))
FIRST, F, G, H = (), (0,), (1,), (2,)
PROGRAM = ("program",)
NEW = ("new",)


def drawn_change(chance, store, program):
    """The PROGRAM with a STEP more, less or another one, at any depth."""
    inner = [at for at, step in enumerate(program) if step[0] in ("if", "fork")]
    if inner and chance.random() < 0.6:
        at = chance.choice(inner)
        place = chance.choice((2, 3)) if program[at][0] == "if" else 2
        step = program[at][:place] + (drawn_change(chance, store, program[at][place]),) + program[at][place + 1:]
        return program[:at] + (step,) + program[at + 1:]
    at = chance.randint(0, len(program))
    more = chance.choice(((), (drawn_step(chance, store, 1, []),)))
    return program[:at] + more + program[at + chance.choice((0, 1)):]


def reasons_between(store, elder, newer):
    """By the PATH of each that is run AGAIN all its REASONS, and the PATHS of those that are KEPT."""
    runs = [{row[0]: (program, row[3]) for row, (_, program) in zip(plain_run(store, each), programs_of(store, each))}
            for each in (elder, newer)]
    reasons, kept = {}, []
    for path, (program, reads) in runs[1].items():
        before = runs[0].get(path)
        if before is None:
            reasons[path] = {NEW}
        elif before[0] != program:
            reasons[path] = {PROGRAM}
        elif before[1] != reads:
            reasons[path] = {("read", entry) for entry in set(before[1]) - set(reads)}
        else:
            kept.append(path)
    return reasons, kept


class Case(unittest.TestCase):
    def look(self, store, elder, newer):
        """What is told, looked at by the second telling."""
        handed = copy.deepcopy((store, elder, newer))
        told = run_again(store, elder, newer)
        away = gone(store, elder, newer)
        self.assertTrue(is_plain_told((told, away)))
        self.assertTrue(same((store, elder, newer), handed))
        rows, again = told
        self.assertTrue(same(rows, plain_run(store, newer)))
        reasons, kept = reasons_between(store, elder, newer)
        self.assertEqual([path for path, _ in again], sorted(reasons))
        for path, reason in again:
            self.assertIn(reason, reasons[path])
        paths = [{row[0] for row in plain_run(store, each)} for each in (elder, newer)]
        self.assertEqual(away, tuple(sorted(paths[0] - paths[1])))
        return again, away, kept

    def again(self, elder, newer, *wanted, away=()):
        told = self.look(STORE, read_program(elder), read_program(newer))
        self.assertTrue(same(told[:2], (wanted, away)), told)


class Reasons(Case):
    def test_the_same(self):
        for text in ("", "tell 1", "fork f { read a 0 fail } 0 join f a join f a"):
            self.again(text, text)

    def test_new(self):
        self.again("", "fork f { read a 0 } 0", (FIRST, PROGRAM), (F, NEW))
        self.again("fork f { } 0", "fork f { fork g { } 0 } 0", (FIRST, PROGRAM), (F, PROGRAM), ((0, 0), NEW))

    def test_program(self):
        self.again("tell 1", "tell 2", (FIRST, PROGRAM))
        self.again("fork f { tell 1 } 0", "fork f { tell 2 } 0", (FIRST, PROGRAM), (F, PROGRAM))
        self.again("fork f { } 0 fork g { tell 1 } 0", "fork f { } 0 fork g { tell 2 } 0", (FIRST, PROGRAM), (G, PROGRAM))

    def test_program_ahead_of_read(self):
        self.again("write 0 1 fork f { read a 0 } 0", "write 0 2 fork f { read a 0 tell 1 } 0", (FIRST, PROGRAM), (F, PROGRAM))

    def test_read_of_a_cell(self):
        self.again("write 0 1 fork f { read a 0 } 0", "write 0 2 fork f { read a 0 } 0",
                   (FIRST, PROGRAM), (F, ("read", ("cell", 0, 1))))
        self.again("put 2 3 fork f { take 2 3 } 0", "put 2 4 fork f { take 2 3 } 0",
                   (FIRST, PROGRAM), (F, ("read", ("cell", 2, (1, 3)))))

    def test_read_of_a_slot(self):
        self.again("let a 1 fork f { tell a } 0", "let a 2 fork f { tell a } 0",
                   (FIRST, PROGRAM), (F, ("read", ("slot", "a", 1))))
        self.again("fork f { tell a } 0", "let a 2 fork f { tell a } 0", (FIRST, PROGRAM), (F, ("read", ("slot", "a", 0))))

    def test_read_of_a_handle_given(self):
        self.again("fork g { } 0 fork f { fork h { } 1 g } 1 g", "fork g { } 0 fork f { fork h { } 1 g } 0",
                   (FIRST, PROGRAM), (G, ("read", ("give", 0, "g", F))))
        self.again("fork g { } 0 fork f { fork h { } 1 g } 0", "fork g { } 0 fork f { fork h { } 1 g } 1 g",
                   (FIRST, PROGRAM), (G, ("read", ("give", 0, "g", None))))

    def test_read_of_a_join(self):
        rest = "fork f { join g a } 1 g"
        entry = ("join", 0, "g", F, "ended", ((0, 5, 1),))
        self.again("fork g { write 0 1 } 0 " + rest, "fork g { write 0 2 } 0 " + rest,
                   (FIRST, PROGRAM), (F, PROGRAM), (G, ("read", entry)))
        self.again("fork g { write 0 1 } 0 " + rest, "fork g { fail } 0 " + rest, (FIRST, PROGRAM), (F, PROGRAM), (G, ("read", entry)))
        self.again("fork g { fail } 0 " + rest, "fork g { } 0 " + rest,
                   (FIRST, PROGRAM), (F, PROGRAM), (G, ("read", ("join", 0, "g", F, "failed", ()))))
        self.again("fork h { } 0 " + rest, "fork g { } 0 " + rest,
                   (FIRST, PROGRAM), (G, ("read", ("join", 0, "g", None, "", ()))))

    def test_one_of_several(self):
        told, _, _ = self.look(STORE, read_program("write 0 1 add 1 1 let a 1 fork f { read b 0 read c 1 tell a } 0"),
                               read_program("write 0 2 add 1 2 let a 2 fork f { read b 0 read c 1 tell a } 0"))
        self.assertIn(told[1], [(F, ("read", entry)) for entry in (("cell", 0, 1), ("cell", 1, 8), ("slot", "a", 1))])

    def test_of_those_that_both_have_none(self):
        """F's first look is the same; the one behind it isn't."""
        self.again("write 1 1 fork f { read a 0 read a 1 } 0", "write 1 2 fork f { read a 0 read a 1 } 0",
                   (FIRST, PROGRAM), (F, ("read", ("cell", 1, 1))))

    def test_further_looks_hang_on_the_first(self):
        """With another number F looks at another CELL: ("cell", 1, 7) is looked at by the newer one alone."""
        inner = "fork f { read a 0 if < a 5 { read b 1 } { } } 0"
        self.again("write 0 9 " + inner, "write 0 1 " + inner, (FIRST, PROGRAM), (F, ("read", ("cell", 0, 9))))


class Kept(Case):
    def test_another_cell(self):
        self.again("write 0 1 fork f { read a 1 } 0", "write 0 2 fork f { read a 1 } 0", (FIRST, PROGRAM))

    def test_a_cell_that_it_wrote_first(self):
        self.again("write 0 1 fork f { write 0 3 read a 0 } 0", "write 0 2 fork f { write 0 3 read a 0 } 0", (FIRST, PROGRAM))

    def test_by_another_way_to_the_same(self):
        self.again("write 0 1 fork f { read a 0 } 0", "write 0 9 write 0 1 fork f { read a 0 } 0", (FIRST, PROGRAM))

    def test_joined_one_that_comes_to_the_same(self):
        rest = " fork f { join g a read b 0 } 1 g"
        self.again("fork g { write 0 1 } 0" + rest, "fork g { write 0 2 write 0 1 } 0" + rest, (FIRST, PROGRAM), (F, PROGRAM))

    def test_have_the_same_in_both_runs(self):
        """And the newer run is told as run anew."""
        chance = random.Random(63)
        many, reads = 0, []
        for _ in range(500):
            store = drawn_store(chance)
            elder = drawn_program(chance, store)
            newer = elder
            for _ in range(chance.randint(0, 3)):
                newer = drawn_change(chance, store, newer)
            again, _, kept = self.look(store, elder, newer)
            before = {row[0]: row for row in plain_run(store, elder)}
            now = {row[0]: row for row in plain_run(store, newer)}
            for path in kept:
                self.assertTrue(same(before[path][1:5], now[path][1:5]))
            if elder == newer:
                self.assertEqual(again, ())
            many += len([path for path in kept if path != ()])
            reads += [reason[1][0] for _, reason in again if reason[0] == "read"]
        self.assertGreater(many, 300)
        self.assertGreater(len(reads), 12)


class Gone(Case):
    def test_ordinary(self):
        self.again("fork f { fork g { } 0 } 0 fork g { } 0", "fork f { } 0", (FIRST, PROGRAM), (F, PROGRAM), away=((0, 0), G))
        self.again("fork f { } 0", "", (FIRST, PROGRAM), away=(F,))

    def test_rising_by_numbers(self):
        self.again("fork f { } 0 " * 10 + "fork f { } 0", "fork f { } 0 fork f { } 0", (FIRST, PROGRAM),
                   away=tuple((k,) for k in range(2, 11)))

    def test_none(self):
        self.assertEqual(gone(STORE, (), ()), ())

    def test_by_names(self):
        elder, newer = read_program("fork f { } 0"), read_program("tell 1")
        self.assertEqual(gone(newer=newer, elder=elder, store=STORE), (F,))
        self.assertEqual(run_again(newer=newer, elder=elder, store=STORE)[1], ((FIRST, PROGRAM),))
        self.assertEqual(run_again(newer=elder, elder=newer, store=STORE)[1], ((FIRST, PROGRAM), (F, NEW)))
