"""[56], [57], [58]: all SCHEDULES of PLAIN HANDS, and whether their ENDS are alike."""

import copy
import math
import random
import unittest

from forkjoins.plain import plain_run
from forkjoins.races import races
from forkjoins.readings import read_program
from forkjoins.rows import lost
from forkjoins.schedules import MOST, all_ends, unlike
from forkjoins.threads import end_of
from tests.drawing import drawn_program, drawn_store
from tests.handmodel import all_turns
from tests.things import is_plain_told, refusal_of, same

STORE = (("plain", 5), ("sum", 7), ("set", (1,)), ("list", ()))
REST = (7, (1,), ())
FIRST, F, G = (), (0,), (1,)


class Case(unittest.TestCase):
    def look(self, store, program, most, wanted):
        """All ENDS are the wanted ones, and unlike fits."""
        kept = copy.deepcopy((store, program))
        told = all_ends(store, program, most=most)
        self.assertTrue(is_plain_told(told))
        self.assertTrue(same(told, wanted), (told, wanted))
        pair = unlike(store, program, most=most)
        self.assertTrue(same((store, program), kept))
        self.assertTrue(is_plain_told(pair))
        if len(wanted) == 1:
            self.assertIsNone(pair)
        else:
            one, other = pair
            self.assertNotEqual(end_of(store, program, one), end_of(store, program, other))

    def many(self, text, many, *wanted, store=STORE):
        """There are just so many SCHEDULES."""
        program = read_program(text)
        self.look(store, program, many, wanted)
        self.look(store, program, many + 1, wanted)
        for function in (all_ends, unlike):
            for most in (many - 1, 1):
                if 1 <= most < many:
                    self.assertEqual(refusal_of(function, store, program, most=most), ("NoStep", "many"))


def end(values, *told):
    """An END of hands (), (0,), (1,) and so on that all ended."""
    return (values, tuple(((), "ended", row) if at == 0 else ((at - 1,), "ended", row) for at, row in enumerate(told)))


class Ends(Case):
    def test_without_any_access(self):
        self.many("", 1, end((5,) + REST, ()))
        self.many("tell 1 fork f { tell 2 } 0 join f a", 1, end((5,) + REST, (1,), (2,)))

    def test_of_one_hand(self):
        self.many("read a 0 tell a write 0 1 read a 0 tell a", 1, end((1,) + REST, (5, 1)))

    def test_two_that_write(self):
        self.many("fork f { write 0 1 } 0 write 0 2", 2, end((1,) + REST, (), ()), end((2,) + REST, (), ()))

    def test_alike_with_a_race(self):
        """Two that write the same number RACE and END alike."""
        text = "fork f { write 0 3 } 0 write 0 3 join f a"
        self.assertNotEqual(races(STORE, read_program(text)), ())
        self.many(text, 2, end((3,) + REST, (), ()))

    def test_each_once(self):
        self.many("fork f { add 1 1 } 0 fork g { add 1 2 } 0 add 1 3", 6, end((5, 13, (1,), ()), (), (), ()))

    def test_rising(self):
        self.many("fork f { row 3 1 } 0 fork g { row 3 -2 } 0 row 3 10", 6, *[
            end((5, 7, (1,), values), (), (), ())
            for values in ((-2, 1, 10), (-2, 10, 1), (1, -2, 10), (1, 10, -2), (10, -2, 1), (10, 1, -2))])

    def test_told_unlike(self):
        self.many("fork f { read a 0 tell a } 0 write 0 2", 2, end((2,) + REST, (), (2,)), end((2,) + REST, (), (5,)))

    def test_ways_unlike(self):
        self.many("fork f { read a 0 if < a 5 { fail } { } } 0 write 0 2 join f a tell a", 2,
                  ((2,) + REST, ((FIRST, "ended", (0,)), (F, "failed", ()))),
                  ((2,) + REST, ((FIRST, "ended", (1,)), (F, "ended", ()))))

    def test_many_are_counted_all_alike(self):
        # Ten of one hand and two of another one: 12 over 2.
        self.many("fork f { read a 0 read a 0 } 0" + " read b 1" * 10, 66, end((5,) + REST, (), ()))

    def test_where_one_waits(self):
        self.many("fork f { read a 0 read a 0 } 0 read a 0 join f a read a 0 read a 0", 3, end((5,) + REST, (), ()))

    def test_most_left_out(self):
        self.assertEqual(MOST, 3000)
        # 13 over 5 is 1287, 14 over 6 is 3003.
        self.assertEqual((math.comb(13, 5), math.comb(14, 6)), (1287, 3003))
        program = read_program("fork f { " + "read a 0 " * 5 + "} 0" + " read a 0" * 8)
        self.assertEqual(all_ends(STORE, program), (end((5,) + REST, (), ()),))
        self.assertIsNone(unlike(STORE, program))
        program = read_program("fork f { " + "read a 0 " * 6 + "} 0" + " read a 0" * 8)
        self.assertEqual(refusal_of(all_ends, STORE, program), ("NoStep", "many"))
        self.assertEqual(refusal_of(unlike, STORE, program), ("NoStep", "many"))
        self.assertEqual(all_ends(STORE, program, most=3003), (end((5,) + REST, (), ()),))
        self.assertIsNone(unlike(STORE, program, most=3003))

    def test_far_more_than_most(self):
        program = read_program("fork f { " + "write 0 1 " * 8 + "} 0 fork g { " + "write 0 2 " * 8 + "} 0" + " read a 0" * 8)
        self.assertEqual(refusal_of(all_ends, STORE, program), ("NoStep", "many"))

    def test_unlike_is_refused_though_two_are_known(self):
        program = read_program("fork f { write 0 1 } 0 fork g { write 0 2 } 0 write 0 3")
        self.assertEqual(refusal_of(unlike, STORE, program, most=5), ("NoStep", "many"))
        self.assertEqual(len(unlike(STORE, program, most=6)), 2)

    def test_by_names(self):
        program = read_program("fork f { write 0 1 } 0 write 0 2")
        self.assertEqual(len(all_ends(most=2, program=program, store=STORE)), 2)
        self.assertEqual(sorted(unlike(most=2, program=program, store=STORE)), [(FIRST, F), (F, FIRST)])
        for function in (all_ends, unlike):
            with self.assertRaises(TypeError):
                function(STORE, program, 2)


class Drawn(Case):
    def test_all_orders_of_single_steps(self):
        chance = random.Random(56)
        counts = []
        for _ in range(300):
            store = drawn_store(chance, 2)
            program = drawn_program(chance, store, 2, 4)
            found = all_turns(store, program, 600)
            if found is None or len(found) > 600:
                continue
            schedules = {schedule for schedule, _ in found}
            self.assertEqual(len(schedules), len(found))
            self.look(store, program, len(schedules), tuple(sorted({ending for _, ending in found})))
            if len(schedules) > 1:
                self.assertEqual(refusal_of(all_ends, store, program, most=len(schedules) - 1), ("NoStep", "many"))
            counts.append(len(schedules))
        self.assertGreater(len(counts), 150)
        self.assertGreater(len([many for many in counts if many > 5]), 15)


class Promise(Case):
    """[58], (M4)."""

    def test_without_a_race(self):
        chance = random.Random(58)
        seen = 0
        for _ in range(2500):
            store = tuple(row for row in drawn_store(chance, 4) if row[0] in ("plain", "sum", "set", "list")) or STORE
            program = drawn_program(chance, store, 2, 5)
            rows = plain_run(store, program)
            if races(store, program) or lost(store, program) or any(row[1] == "failed" for row in rows):
                continue
            if refusal_of(all_ends, store, program) is None:
                wanted = (rows[0][6], tuple((row[0], row[1], row[2]) for row in rows))
                self.assertTrue(same(all_ends(store, program), (wanted,)), (store, program))
                seen += len(rows) > 1
        self.assertGreater(seen, 60)

    def test_most_and_own_are_left_out(self):
        store = (("most", 5),)
        program = read_program("fork f { write 0 1 } 0 join f a")
        self.assertEqual(races(store, program), ())
        self.assertEqual(plain_run(store, program)[0][6], (5,))
        self.assertEqual(all_ends(store, program), (end((1,), (), ()),))
        store = ((("own", ("num", 9)), 5),)
        self.assertEqual(plain_run(store, program)[0][6], (9,))
        self.assertEqual(all_ends(store, program), (end((1,), (), ()),))

    def test_writes_of_a_lost_one(self):
        program = read_program("fork f { write 0 1 } 0")
        self.assertEqual(plain_run(STORE, program)[0][6], (5,) + REST)
        self.assertEqual(all_ends(STORE, program), (end((1,) + REST, (), ()),))

    def test_writes_of_a_failed_one(self):
        program = read_program("fork f { write 0 1 tell 2 fail } 0 join f a")
        self.assertEqual(plain_run(STORE, program)[0][6], (5,) + REST)
        self.assertEqual(plain_run(STORE, program)[1][2], ())
        self.assertEqual(all_ends(STORE, program), (((1,) + REST, ((FIRST, "ended", ()), (F, "failed", (2,)))),))
