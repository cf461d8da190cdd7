"""[54], [55]: PLAIN HANDS, their SCHEDULES and ENDS."""

import copy
import random
import unittest

from forkjoins.readings import read_program
from forkjoins.threads import end_of, woven
from tests.drawing import drawn_program, drawn_store
from tests.handmodel import by_chance
from tests.things import GREAT, any_things, is_plain_told, refusal_of, same

STORE = (("plain", 5), ("sum", 7), ("set", (1,)), ("list", ()))
VALUES = (5, 7, (1,), ())
FIRST, F, G = (), (0,), (1,)


class Case(unittest.TestCase):
    def woven(self, text, *pace, store=STORE):
        program = read_program(text)
        kept = copy.deepcopy((store, program, pace))
        told = woven(store, program, pace=pace)
        self.assertTrue(is_plain_told(told))
        self.assertTrue(same((store, program, pace), kept))
        return told

    def end(self, text, *schedule, store=STORE):
        program = read_program(text)
        kept = copy.deepcopy((store, program, schedule))
        told = end_of(store, program, schedule)
        self.assertTrue(is_plain_told(told))
        self.assertTrue(same((store, program, schedule), kept))
        return told

    def ends(self, text, schedule, values, *rows):
        """The END has these VALUES; and rows, "path way told..." by their things."""
        wanted = (values, tuple((path, way, tuple(told)) for path, way, *told in rows))
        told = self.end(text, *schedule)
        self.assertTrue(same(told, wanted), told)

    def refused(self, text, schedule, *refusal):
        program = read_program(text)
        kept = copy.deepcopy(schedule)
        told = refusal_of(end_of, STORE, program, schedule)
        self.assertEqual(told[0], refusal[0])
        self.assertTrue(same(told[1:], refusal[1:]), told)
        self.assertTrue(same(schedule, kept))
        return told


TEXT = "fork f { read a 0 tell a write 0 8 } 0 write 0 6 read b 0 tell b join f c tell c"


class Woven(Case):
    def test_void(self):
        self.assertEqual(self.woven(""), ())
        self.assertEqual(self.woven("tell 1 fork f { let a 2 tell a } 0 join f b", 1, 2, 3), ())

    def test_always_the_first(self):
        self.assertEqual(self.woven(TEXT), (FIRST, FIRST, F, F))

    def test_by_a_pace(self):
        self.assertEqual(self.woven(TEXT, 1), (F, FIRST, FIRST, F))
        self.assertEqual(self.woven(TEXT, 1, 1), (F, F, FIRST, FIRST))
        self.assertEqual(self.woven(TEXT, 0, 1), (FIRST, F, FIRST, F))
        self.assertEqual(self.woven(TEXT, 0, 1, 1), (FIRST, F, F, FIRST))

    def test_modulo(self):
        self.assertEqual(self.woven(TEXT, 3, 5), (F, F, FIRST, FIRST))
        self.assertEqual(self.woven(TEXT, 2, 10 ** 60 + 1), (FIRST, F, FIRST, F))
        self.assertEqual(self.woven(TEXT, GREAT, GREAT), self.woven(TEXT, 1, 1))

    def test_modulo_how_many_stand_then(self):
        # Three stand, then two, then one.
        text = "fork f { read a 0 } 0 fork g { read a 0 } 0 read a 0"
        self.assertEqual(self.woven(text, 2, 2, 2), (G, FIRST, F))
        self.assertEqual(self.woven(text, 4, 3, 5), (F, G, FIRST))

    def test_numbers_behind_the_last_step(self):
        self.assertEqual(self.woven(TEXT, 1, 1, 1, 1, 1, 1), (F, F, FIRST, FIRST))

    def test_by_their_paths(self):
        text = "fork f { } 0 " * 2 + "fork f { read a 0 } 0 " + "fork f { } 0 " * 7 + "fork f { fork g { read a 0 } 0 read a 0 } 0"
        self.assertEqual(self.woven(text), ((2,), (10,), (10, 0)))
        self.assertEqual(self.woven(text, 2, 1), ((10, 0), (10,), (2,)))

    def test_by_their_paths_not_by_their_age(self):
        # (0, 0) is forked behind (1,).
        text = "fork f { read a 0 fork h { read a 0 } 0 read a 0 } 0 fork g { read a 0 } 0"
        self.assertEqual(self.woven(text), (F, F, (0, 0), G))
        self.assertEqual(self.woven(text, 0, 1), (F, (0, 0), F, G))
        self.assertEqual(self.woven(text, 0, 2), (F, G, F, (0, 0)))

    def test_those_that_waited(self):
        # () waits for F; G for the one that it was given.
        self.assertEqual(self.woven("fork f { read a 0 } 0 join f a read a 0"), (F, FIRST))
        text = "fork f { read a 0 } 0 fork g { join f a write 0 1 } 1 f write 1 1 join g a write 0 2"
        self.assertEqual(self.woven(text), (FIRST, F, G, FIRST))
        self.assertEqual(self.woven(text, 1, 1), (F, G, FIRST, FIRST))

    def test_a_whole_row_of_those_that_waited(self):
        text = "fork f { read a 0 } 0 fork g { join f a } 1 f fork h { join g a } 1 g join h a write 0 1"
        self.assertEqual(self.woven(text), (F, FIRST))

    def test_left_out(self):
        self.assertEqual(woven(STORE, read_program(TEXT)), (FIRST, FIRST, F, F))
        self.assertEqual(woven(pace=(1,), program=read_program(TEXT), store=STORE), (F, FIRST, FIRST, F))

    def test_pace_by_its_name_alone(self):
        with self.assertRaises(TypeError):
            woven(STORE, read_program(TEXT), (1,))


class Ends(Case):
    def test_through_at_once(self):
        self.ends("", (), VALUES, (FIRST, "ended"))
        self.ends("tell 3 fail tell 4", (), VALUES, (FIRST, "failed", 3))
        self.ends("fork f { } 0 join f a tell a", (), VALUES, (FIRST, "ended", 1), (F, "ended"))

    def test_what_one_writes_all_have(self):
        self.ends(TEXT, (FIRST, FIRST, F, F), (8,) + VALUES[1:], (FIRST, "ended", 6, 1), (F, "ended", 6))
        self.ends(TEXT, (F, FIRST, FIRST, F), (8,) + VALUES[1:], (FIRST, "ended", 6, 1), (F, "ended", 5))
        self.ends(TEXT, (F, F, FIRST, FIRST), (6,) + VALUES[1:], (FIRST, "ended", 6, 1), (F, "ended", 5))
        self.ends(TEXT, (FIRST, F, F, FIRST), (8,) + VALUES[1:], (FIRST, "ended", 8, 1), (F, "ended", 6))

    def test_each_word(self):
        text = ("fork f { add 1 3 put 2 4 take 2 1 row 3 9 } 0 read a 1 tell a has a 2 1 tell a read a 2 tell a read a 3 tell a "
                "row 3 8 add 1 1")
        self.ends(text, (F,) * 4 + (FIRST,) * 6, (5, 11, (4,), (9, 8)), (FIRST, "ended", 10, 0, 1, 1), (F, "ended"))
        self.ends(text, (FIRST,) * 6 + (F,) * 4, (5, 11, (4,), (8, 9)), (FIRST, "ended", 7, 1, 1, 0), (F, "ended"))

    def test_nothing_is_merged(self):
        """A "sum" of copies would come to 7 + 3 + 1."""
        self.ends("fork f { write 1 3 } 0 write 1 1 join f a", (F, FIRST), (5, 1, (1,), ()), (FIRST, "ended"), (F, "ended"))
        self.ends("fork f { write 1 3 } 0 write 1 1 join f a", (FIRST, F), (5, 3, (1,), ()), (FIRST, "ended"), (F, "ended"))
        self.ends("fork f { row 3 3 } 0 row 3 1 join f a read a 3 tell a", (F, FIRST, FIRST), (5, 7, (1,), (3, 1)),
                  (FIRST, "ended", 2), (F, "ended"))

    def test_slots_are_copied(self):
        self.ends("let a 3 fork f { tell a let a 4 read b 0 tell a } 0 let a 5 read b 0 tell a", (FIRST, F), VALUES,
                  (FIRST, "ended", 5), (F, "ended", 3, 4))

    def test_one_that_waits(self):
        self.ends("fork f { write 0 1 } 0 join f a read b 0 tell a tell b", (F, FIRST), (1,) + VALUES[1:],
                  (FIRST, "ended", 1, 1), (F, "ended"))

    def test_behind_the_join_of_one_that_failed(self):
        self.ends("fork f { write 0 1 tell 3 fail } 0 join f a tell a read b 0 tell b", (F, FIRST), (1,) + VALUES[1:],
                  (FIRST, "ended", 0, 1), (F, "failed", 3))

    def test_join_without_a_handle(self):
        self.ends("tell 1 join f a tell 2 write 0 1", (), VALUES, (FIRST, "failed", 1))
        self.ends("fork f { } 0 join f a join f a write 0 1", (), VALUES, (FIRST, "failed"), (F, "ended"))
        self.ends("fork f { } 0 fork g { } 1 f join f a write 0 1", (), VALUES, (FIRST, "failed"), (F, "ended"), (G, "ended"))

    def test_those_that_a_failed_one_forked_go_on(self):
        self.ends("fork f { fork g { write 0 2 tell 5 } 0 fail } 0 join f a", ((0, 0),), (2,) + VALUES[1:],
                  (FIRST, "ended"), (F, "failed"), ((0, 0), "ended", 5))

    def test_lost_ones_go_on(self):
        self.ends("fork f { write 0 1 } 0 fork f { write 0 2 } 0", (F, G), (2,) + VALUES[1:],
                  (FIRST, "ended"), (F, "ended"), (G, "ended"))

    def test_the_newer_handle_of_a_name(self):
        self.ends("fork f { read b 0 fail } 0 fork f { } 0 join f a tell a", (F,), VALUES,
                  (FIRST, "ended", 1), (F, "failed"), (G, "ended"))

    def test_if_by_what_was_read(self):
        text = "fork f { write 0 1 } 0 read a 0 if < a 5 { tell 1 write 1 0 } { tell 2 } tell 3"
        self.ends(text, (F, FIRST, FIRST), (1, 0, (1,), ()), (FIRST, "ended", 1, 3), (F, "ended"))
        self.ends(text, (FIRST, F), (1, 7, (1,), ()), (FIRST, "ended", 2, 3), (F, "ended"))

    def test_by_names(self):
        told = end_of(schedule=(F, FIRST), program=read_program("fork f { write 0 1 } 0 write 0 2"), store=STORE)
        self.assertEqual(told, ((2,) + VALUES[1:], ((FIRST, "ended", ()), (F, "ended", ()))))


class Refused(Case):
    def test_path_that_doesnt_stand(self):
        self.refused(TEXT, (F, F, F), "NoRevision", F)
        self.refused(TEXT, (FIRST, FIRST, FIRST, F), "NoRevision", FIRST)
        self.refused(TEXT, (G,), "NoRevision", G)
        self.refused("fork f { read a 0 } 0 join f a read a 0", (FIRST, F), "NoRevision", FIRST)
        self.refused("tell 1", (FIRST,), "NoRevision", FIRST)

    def test_one_that_isnt_there_yet(self):
        self.refused("read a 0 fork f { read a 0 } 0", (F, FIRST), "NoRevision", F)
        self.ends("read a 0 fork f { read a 0 } 0", (FIRST, F), VALUES, (FIRST, "ended"), (F, "ended"))

    def test_a_thing_too_many(self):
        for thing in any_things() + [FIRST, F]:
            told = self.refused(TEXT, (FIRST, FIRST, F, F, thing), "NoRevision", thing)
            self.assertIs(told[1], thing)

    def test_very_thing(self):
        for thing in any_things() + [[], [0], (False,), (0, 0), (-1,), 0, "", "()", None, ((),), ("0",)]:
            told = self.refused(TEXT, (FIRST, thing, FIRST), "NoRevision", thing)
            self.assertIs(told[1], thing)

    def test_truths(self):
        self.refused(TEXT, ((False,), F, FIRST, FIRST), "NoRevision", (False,))
        self.refused("fork f { } 0 fork g { read a 0 } 0", ((True,),), "NoRevision", (True,))
        self.assertEqual(len(self.end("fork f { } 0 fork g { read a 0 } 0", G)), 2)

    def test_the_first(self):
        self.refused(TEXT, ([1], [2]), "NoRevision", [1])
        self.refused(TEXT, (FIRST, [2], [1]), "NoRevision", [2])

    def test_early(self):
        for schedule in ((), (FIRST,), (FIRST, F), (F, F, FIRST)):
            self.refused(TEXT, schedule, "NoStep", "early")
        self.refused("read a 0", (), "NoStep", "early")

    def test_no_revision_ahead_of_early(self):
        self.refused(TEXT, (F, F, F), "NoRevision", F)


class Drawn(Case):
    def test_as_single_steps_do(self):
        chance = random.Random(54)
        lengths = []
        for _ in range(250):
            store = drawn_store(chance)
            program = drawn_program(chance, store)
            for _ in range(4):
                schedule, end = by_chance(store, program, chance)
                self.assertTrue(same(end_of(store, program, schedule), end), (store, program, schedule))
                lengths.append(len(schedule))
        self.assertGreater(max(lengths), 12)

    def test_each_that_is_woven_has_an_end(self):
        chance = random.Random(55)
        for _ in range(150):
            store = drawn_store(chance)
            program = drawn_program(chance, store)
            for _ in range(4):
                pace = tuple(chance.randrange(12) for _ in range(chance.randrange(20)))
                schedule = woven(store, program, pace=pace)
                values, rows = end_of(store, program, schedule)
                self.assertEqual(list(rows), sorted(rows))
                self.assertTrue(all(way in ("ended", "failed") for _, way, _ in rows))
                self.assertEqual(refusal_of(end_of, store, program, schedule + (FIRST,)), ("NoRevision", FIRST))
                if schedule:
                    self.assertEqual(refusal_of(end_of, store, program, schedule[:-1]), ("NoStep", "early"))
