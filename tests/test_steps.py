"""[37], [39], [40], [41]: who CAN step, what a step does, and how all is TIDIED."""

import copy
import random
import unittest

from forkjoins.readings import read_program
from forkjoins.states import begun
from forkjoins.steps import able, step, waiting
from forkjoins.views import view
from tests.drawing import drawn_program, drawn_store
from tests.statemodel import Copies
from tests.things import GREAT, any_things, is_plain_told, refusal_of, same

OWN = ("own", ("minus", ("slot", "theirs"), ("slot", "mine")))
STORE = (("plain", 5), ("sum", 10), ("most", 3), ("set", (1, 2)), ("list", (7,)), (OWN, 4))
BEGIN = (5, 10, 3, (1, 2), (7,), 4)
TWO = (("plain", 5), ("sum", 7))
F = (0,)
G = (1,)


class Case(unittest.TestCase):
    maxDiff = None

    def begun(self, text, store=STORE):
        return begun(store, read_program(text))

    def after(self, state, *paths):
        """The STATE behind the steps of these, and the last MOVE."""
        move = None
        for path in paths:
            kept = copy.deepcopy(state)
            behind, move = told = step(state, path)
            self.assertTrue(is_plain_told(told))
            self.assertTrue(same(state, kept))
            state = behind
        return state, move

    def moves(self, text, *paths, store=STORE):
        """The MOVES of these steps, each without its PATH."""
        state, found = self.begun(text, store), []
        for path in paths:
            state, move = self.after(state, path)
            self.assertEqual(move[0], path)
            found.append(move[1:])
        return found

    def row(self, state, path):
        return {row[0]: row for row in state[1]}[path]

    def places(self, state):
        """By PATHS own and root."""
        return {row[0]: row[7:] for row in state[1]}


class Able(Case):
    def test_beginning(self):
        state = self.begun("tell 1")
        self.assertEqual((able(state), waiting(state)), (((),), ()))
        state = self.begun("")
        self.assertEqual((able(state), waiting(state)), ((), ()))

    def test_behind_each_step(self):
        state = self.begun("fork f { tell 1 tell 2 } 0 tell 3 join f a")
        for path, can, waits in (((), ((), F), ()), ((), (F,), (((), F),)), (F, (F,), (((), F),)), (F, ((),), ()), ((), (), ())):
            state, _ = self.after(state, path)
            self.assertTrue(same(able(state), can))
            self.assertTrue(same(waiting(state), waits))

    def test_one_waits_for_one_that_waits(self):
        state = self.begun("fork f { tell 1 } 0 fork g { join f a tell 2 } 1 f join g a")
        state, _ = self.after(state, (), ())
        self.assertEqual((able(state), waiting(state)), ((F,), (((), G), (G, F))))
        state, _ = self.after(state, F)
        self.assertEqual((able(state), waiting(state)), ((G,), (((), G),)))
        state, _ = self.after(state, G)
        self.assertEqual((able(state), waiting(state)), ((G,), (((), G),)))
        state, _ = self.after(state, G)
        self.assertEqual((able(state), waiting(state)), (((),), ()))

    def test_join_of_one_that_is_through_does_not_wait(self):
        for inner in ("", "tell 1", "fail"):
            state, _ = self.after(self.begun("fork f { " + (inner + " " if inner else "") + "} 0 join f a"), ())
            if inner:
                self.assertEqual(waiting(state), (((), F),))
                state, _ = self.after(state, F)
            self.assertEqual((able(state), waiting(state)), (((),), ()))

    def test_join_without_a_handle_does_not_wait(self):
        for text in ("join f a", "fork g { tell 1 } 0 join f a", "fork f { tell 1 } 0 fork g { tell 1 } 1 f join f a"):
            state = self.begun(text)
            while not self.row(state, ())[2][0][0] == "join":
                state, _ = self.after(state, ())
            self.assertIn((), able(state))
            self.assertEqual(waiting(state), ())
            state, move = self.after(state, ())
            self.assertEqual((move, self.row(state, ())[1]), (((), "join", None), "failed"))

    def test_join_that_is_not_next_does_not_wait(self):
        state, _ = self.after(self.begun("fork f { tell 1 } 0 tell 1 join f a"), ())
        self.assertEqual((able(state), waiting(state)), (((), F), ()))

    def test_all_through(self):
        state, _ = self.after(self.begun("fork f { fail } 0 tell 1"), (), (), F)
        self.assertEqual((able(state), waiting(state)), ((), ()))

    def test_rising_by_paths(self):
        state = self.begun("fork a { fork b { tell 1 } 0 tell 1 } 0 " + "fork c { tell 1 } 0 " * 10 + "tell 1")
        state, _ = self.after(state, *[()] * 11, F)
        self.assertEqual(able(state), ((), F, (0, 0)) + tuple((k,) for k in range(1, 11)))

    def test_by_names(self):
        state = self.begun("tell 1")
        self.assertEqual((able(state=state), waiting(state=state)), (((),), ()))
        self.assertEqual(step(path=(), state=state), step(state, ()))


class Moves(Case):
    def test_read(self):
        text = "read a 0 read a 1 read a 2 read a 3 read a 4 read a 5"
        self.assertEqual(self.moves(text, *[()] * 6), [("read", number) for number in (5, 10, 3, 2, 1, 4)])

    def test_has(self):
        self.assertEqual(self.moves("has a 3 2 has a 3 3", (), ()), [("has", 1), ("has", 0)])

    def test_write_and_add(self):
        self.assertEqual(self.moves("write 0 -4 write 2 1 add 1 3 add 1 -20 write 1 6", *[()] * 5),
                         [("write", -4), ("write", 1), ("add", 13), ("add", -7), ("write", 6)])

    def test_put_take_row(self):
        text = "put 3 1 put 3 9 take 3 8 take 3 2 row 4 7 row 4 -1"
        self.assertEqual(self.moves(text, *[()] * 6),
                         [("put", 1), ("put", 9), ("take", 8), ("take", 2), ("row", 7), ("row", -1)])
        self.assertEqual(self.moves("let a 4 put 3 + a a", (), ())[1], ("put", 8))

    def test_let_and_tell(self):
        self.assertEqual(self.moves("let a 4 tell + a 1 let a - a 9 tell a", *[()] * 4),
                         [("let", 4), ("tell", 5), ("let", -5), ("tell", -5)])
        # A slot in its own let is the elder one.
        self.assertEqual(self.moves("let a 3 let a + a a", (), ()), [("let", 3), ("let", 6)])

    def test_if(self):
        for number, place in ((1, 0), (7, 0), (0, 1), (-1, 1)):
            moves = self.moves(f"if {number} {{ tell 10 }} {{ tell 20 }} tell 3", (), (), ())
            self.assertEqual(moves, [("if", place), ("tell", (10, 20)[place]), ("tell", 3)])
        state, _ = self.after(self.begun("if 0 { fail } { tell 1 tell 2 } tell 3"), ())
        self.assertEqual(self.row(state, ())[2], read_program("tell 1 tell 2 tell 3"))

    def test_fork(self):
        moves = self.moves("fork f { fork g { } 0 fork g { } 0 } 0 fork f { } 0", (), F, (), F)
        self.assertEqual(moves, [("fork", F), ("fork", (0, 0)), ("fork", G), ("fork", (0, 1))])

    def test_join(self):
        self.assertEqual(self.moves("fork f { tell 1 } 0 join f a tell a", (), F, (), ())[2:], [("join", (F, 1)), ("tell", 1)])
        self.assertEqual(self.moves("let a 7 fork f { fail } 0 join f a tell a", (), (), F, (), ())[3:],
                         [("join", (F, 0)), ("tell", 0)])
        self.assertEqual(self.moves("fork f { } 0 join g a", (), ())[1], ("join", None))

    def test_fail(self):
        self.assertEqual(self.moves("fail", ()), [("fail", None)])


class Rows(Case):
    def test_through_by_the_last_step(self):
        for text, word in (("tell 1", "ended"), ("fail", "failed"), ("join f a", "failed"), ("if 1 { } { fail }", "ended"),
                           ("fork f { } 0", "ended"), ("fork f { tell 1 } 0", "ended"), ("fail tell 1", "failed")):
            state, _ = self.after(self.begun(text), ())
            self.assertEqual(self.row(state, ())[1:3], (word, ()))
            self.assertEqual(self.row(state, ())[4], ())

    def test_one_that_begins_with_nothing(self):
        state, _ = self.after(self.begun("let a 3 fork f { } 0 tell 1"), (), ())
        self.assertEqual(self.row(state, F), (F, "ended", (), (("a", 3),), (), (), (), 2, 0))
        # The handle that it was given is lost.
        state, _ = self.after(self.begun("fork f { tell 1 } 0 fork g { } 1 f tell 1"), (), ())
        self.assertEqual(self.row(state, G)[1:5], ("ended", (), (), ()))
        self.assertEqual(self.row(state, ())[4], (("g", G),))

    def test_what_a_new_one_begins_with(self):
        state, _ = self.after(self.begun("let b 2 let a 1 write 0 9 tell 3 fork f { tell a } 0 let a 7"), *[()] * 5)
        self.assertEqual(self.row(state, F),
                         (F, "runs", (("tell", ("slot", "a")),), (("a", 1), ("b", 2)), (), (), (), 2, 0))
        self.assertEqual(self.row(state, ())[3:7], ((("a", 1), ("b", 2)), (("f", F),), (3,), (0,)))

    def test_slots_that_were_asked_alone_are_none(self):
        state, _ = self.after(self.begun("tell a tell b tell c"), (), ())
        self.assertEqual(self.row(state, ())[3:6], ((), (), (0, 0)))

    def test_handles_rise_by_names(self):
        state, _ = self.after(self.begun("fork g { } 0 fork f { } 0 fork h { } 0 tell 1"), (), (), ())
        self.assertEqual(self.row(state, ())[4], (("f", G), ("g", F), ("h", (2,))))

    def test_handles_given_over(self):
        text = "fork g { tell 1 } 0 fork f { tell 1 } 0 fork f { tell 1 } 3 e f g tell 1"
        state, _ = self.after(self.begun(text), (), (), ())
        self.assertEqual(self.row(state, ())[4], (("f", (2,)),))
        self.assertEqual(self.row(state, (2,))[4], (("f", G), ("g", F)))

    def test_handle_used_up(self):
        state, _ = self.after(self.begun("fork f { } 0 fork g { } 0 join f a tell 1"), (), (), ())
        self.assertEqual(self.row(state, ())[4], (("g", G),))

    def test_failed_one_keeps_what_it_told_and_wrote(self):
        text = "fork f { tell 1 write 1 3 let a 2 fork g { tell 1 } 0 fail tell 2 } 0 join f a tell 1"
        state, _ = self.after(self.begun(text), (), *[F] * 5)
        self.assertEqual(self.row(state, F)[1:7], ("failed", (), (("a", 2),), (), (1,), (1,)))
        state, _ = self.after(state, ())
        self.assertEqual(self.row(state, F)[1:7], ("failed", (), (("a", 2),), (), (1,), (1,)))
        # Nothing of it comes to the joiner.
        self.assertEqual(self.row(state, ())[5:7], ((), ()))
        self.assertEqual(view(state, ()), BEGIN)

    def test_written_also_with_what_it_had(self):
        state, _ = self.after(self.begun("take 3 9 write 0 5 put 3 1 add 1 0"), *[()] * 4)
        self.assertEqual(self.row(state, ())[6], (0, 1, 3))

    def test_written_by_a_join_too(self):
        state, _ = self.after(self.begun("fork f { write 5 1 write 0 5 } 0 write 1 1 join f a tell 1"), (), F, F, (), ())
        self.assertEqual(self.row(state, ())[6], (0, 1, 5))


class Refused(Case):
    TEXT = "fork f { tell 1 fork h { } 0 } 0 fork g { fail } 0 join f a"

    def test_no_revision(self):
        state, _ = self.after(self.begun(self.TEXT), ())
        for path in any_things() + [(1,), (0, 0), (2,), (-1,), [], [0], (False,), (True,), 0, "", "()", ([0],), ((0,),), ((),),
                                    (0, None), ("0",), (0, False), GREAT, (GREAT,)]:
            kept = copy.deepcopy((state, path))
            told = refusal_of(step, state, path)
            self.assertEqual(told[0], "NoRevision")
            self.assertIs(told[1], path)
            self.assertTrue(same((state, path), kept))
        self.assertEqual(refusal_of(step, self.begun(""), F), ("NoRevision", F))

    def test_path_of_one_not_yet_begun(self):
        state = self.begun(self.TEXT)
        self.assertEqual(refusal_of(step, state, F), ("NoRevision", F))
        state, _ = self.after(state, ())
        self.assertEqual(step(state, F)[1], (F, "tell", 1))

    def test_through(self):
        self.assertEqual(refusal_of(step, self.begun(""), ()), ("NoStep", "through"))
        state, _ = self.after(self.begun(self.TEXT), (), (), F, F, G)
        for path in (F, G, (0, 0)):
            self.assertEqual(refusal_of(step, state, path), ("NoStep", "through"))
        state, _ = self.after(state, ())
        for path in ((), F, G, (0, 0)):
            self.assertEqual(refusal_of(step, state, path), ("NoStep", "through"))

    def test_waits(self):
        state, _ = self.after(self.begun(self.TEXT), (), ())
        kept = copy.deepcopy(state)
        self.assertEqual(refusal_of(step, state, ()), ("NoStep", "waits"))
        self.assertTrue(same(state, kept))
        state, _ = self.after(state, F)
        self.assertEqual(refusal_of(step, state, ()), ("NoStep", "waits"))
        state, _ = self.after(state, F)
        self.assertEqual(step(state, ())[1], ((), "join", (F, 1)))


class Segments(Case):
    TOP = (0, None, ((0, 5), (1, 7)))

    def test_no_row_by_other_steps(self):
        state, _ = self.after(self.begun("read a 0 let b 2 tell 3 if 1 { } { } join g a", TWO), *[()] * 5)
        self.assertEqual(state[2:], ((self.TOP,), 1))

    def test_write_in_the_place_of_another_row(self):
        state, _ = self.after(self.begun("write 0 8 add 1 2 write 0 9", TWO), (), (), ())
        self.assertEqual(state[2:], (((0, None, ((0, 9), (1, 9))),), 1))

    def test_write_below(self):
        state = self.begun("fork f { write 1 1 write 0 2 add 1 4 tell 1 } 0 write 1 3 write 1 4 tell 1", TWO)
        state, _ = self.after(state, (), (), F)
        self.assertEqual(state[2], (self.TOP, (1, 0, ((1, 3),)), (2, 0, ((1, 1),))))
        state, _ = self.after(state, (), F, F)
        self.assertEqual(state[2], (self.TOP, (1, 0, ((1, 4),)), (2, 0, ((0, 2), (1, 5)))))

    def test_a_row_also_where_it_has_what_it_had(self):
        state, _ = self.after(self.begun("fork f { tell 1 } 0 write 0 5 add 1 0 tell 1", TWO), (), (), ())
        self.assertEqual(state[2], (self.TOP, (1, 0, ((0, 5), (1, 7))), (2, 0, ())))

    def test_fork(self):
        state, _ = self.after(self.begun("write 0 6 fork f { tell 1 } 0 tell 1", TWO), (), ())
        self.assertEqual(state[2:], (((0, None, ((0, 6), (1, 7))), (1, 0, ()), (2, 0, ())), 3))
        self.assertEqual(self.places(state), {(): (1, None), F: (2, 0)})

    def test_fork_of_one_that_is_held(self):
        text = "fork f { write 0 1 fork g { tell 1 } 0 tell 1 } 0 write 1 2 fork h { tell 1 } 0 tell 1"
        state, _ = self.after(self.begun(text, TWO), (), F, F)
        self.assertEqual(state[2:], ((self.TOP, (1, 0, ()), (2, 0, ((0, 1),)), (3, 2, ()), (4, 2, ())), 5))
        self.assertEqual(self.places(state), {(): (1, None), F: (3, 0), (0, 0): (4, 2)})
        state, _ = self.after(state, (), ())
        self.assertEqual(state[2:], ((self.TOP, (1, 0, ((1, 2),)), (2, 0, ((0, 1),)), (3, 2, ()), (4, 2, ()), (5, 1, ()),
                                      (6, 1, ())), 7))
        self.assertEqual(self.places(state), {(): (5, None), F: (3, 0), (0, 0): (4, 2), G: (6, 1)})

    def test_join_of_each_kind(self):
        text = ("fork f { write 0 8 add 1 5 write 2 1 put 3 6 take 3 1 row 4 8 write 5 9 tell 1 } 0 "
                "write 0 6 add 1 2 write 2 2 put 3 4 row 4 9 write 5 3 join f a tell 1")
        state, move = self.after(self.begun(text), (), *[()] * 6, *[F] * 8, ())
        self.assertEqual(move, ((), "join", (F, 1)))
        values = (8, 17, 2, (2, 4, 6), (7, 9, 8), 6)
        self.assertEqual(view(state, ()), values)
        self.assertEqual(state[2], ((1, None, tuple(enumerate(values))),))

    def test_join_writes_rows_of_what_the_joined_one_wrote_alone(self):
        text = "fork g { tell 1 } 0 fork f { write 0 5 } 0 join f a tell 1"
        state, _ = self.after(self.begun(text, TWO), (), (), G)
        self.assertEqual(state[2], (self.TOP, (1, 0, ()), (2, 0, ()), (3, 1, ()), (4, 1, ((0, 5),))))
        state, _ = self.after(state, ())
        self.assertEqual(state[2], (self.TOP, (2, 0, ()), (3, 0, ((0, 5),))))

    def test_base_is_what_is_seen_at_the_root(self):
        """The forker wrote ahead of the fork, and behind it: base is what it had at the fork."""
        text = "add 1 10 fork f { add 1 100 } 0 add 1 1000 join f a tell 1"
        state, _ = self.after(self.begun(text, TWO), (), (), (), F, ())
        self.assertEqual(view(state, ()), (5, 1117))

    def test_join_of_a_failed_one(self):
        state, _ = self.after(self.begun("fork f { write 0 1 fail } 0 join f a tell 1", TWO), (), F, F, ())
        self.assertEqual(state[2], ((1, None, ((0, 5), (1, 7))),))
        self.assertEqual(self.places(state), {(): (1, None), F: (None, None)})


class Tidied(Case):
    TOP = (0, None, ((0, 5), (1, 7)))

    def test_put_together_behind_a_join(self):
        state, _ = self.after(self.begun("fork f { write 0 1 } 0 write 0 2 join f a tell 1", TWO), (), (), F)
        self.assertEqual(state[2], (self.TOP, (1, 0, ((0, 2),)), (2, 0, ((0, 1),))))
        self.assertEqual(self.places(state), {(): (1, None), F: (2, 0)})
        state, _ = self.after(state, ())
        self.assertEqual(state[2:], (((1, None, ((0, 1), (1, 7))),), 3))
        self.assertEqual(self.places(state), {(): (1, None), F: (None, None)})

    def test_elder_handle_lost(self):
        state = self.begun("fork f { write 0 1 tell 1 } 0 write 1 9 fork f { tell 2 } 0 tell 3", TWO)
        state, _ = self.after(state, (), F, (), ())
        # The first one runs on without a root; 0 is nobody's, but has two below.
        self.assertEqual(state[2], (self.TOP, (1, 0, ((1, 9),)), (2, 0, ((0, 1),)), (3, 1, ()), (4, 1, ())))
        self.assertEqual(self.places(state), {(): (3, None), F: (2, None), G: (4, 1)})
        state, _ = self.after(state, F)
        # It is done with: 2 goes, and then 0 has one alone below.
        self.assertEqual(state[2], ((1, None, ((0, 5), (1, 9))), (3, 1, ()), (4, 1, ())))
        self.assertEqual(self.places(state), {(): (3, None), F: (None, None), G: (4, 1)})

    def test_lost_by_the_end_of_the_forker(self):
        state = self.begun("fork f { write 0 1 tell 1 } 0 write 1 9", TWO)
        state, _ = self.after(state, (), F, ())
        self.assertEqual(state[2], (self.TOP, (1, 0, ((1, 9),)), (2, 0, ((0, 1),))))
        self.assertEqual(self.places(state), {(): (1, None), F: (2, None)})
        state, _ = self.after(state, F)
        self.assertEqual(state[2], ((1, None, ((0, 5), (1, 9))),))

    def test_lost_by_a_forker_that_fails(self):
        state = self.begun("fork f { fork g { write 0 1 tell 1 } 0 write 1 8 fail } 0 write 1 9 tell 1", TWO)
        state, _ = self.after(state, (), F, F, (0, 0), (), F)
        # It failed, and is held all the same; the one that it forked has no root.
        self.assertEqual(self.places(state), {(): (1, None), F: (3, 0), (0, 0): (4, None)})
        self.assertEqual(state[2], (self.TOP, (1, 0, ((1, 9),)), (2, 0, ()), (3, 2, ((1, 8),)), (4, 2, ((0, 1),))))
        state, _ = self.after(state, (0, 0))
        self.assertEqual(state[2], (self.TOP, (1, 0, ((1, 9),)), (3, 0, ((1, 8),))))
        state, _ = self.after(state, ())
        self.assertEqual(state[2], ((1, None, ((0, 5), (1, 9))),))

    def test_fork_as_the_last_step(self):
        state, _ = self.after(self.begun("fork f { tell 1 } 0", TWO), ())
        self.assertEqual(state[2:], ((self.TOP, (1, 0, ()), (2, 0, ())), 3))
        self.assertEqual(self.places(state), {(): (1, None), F: (2, None)})
        state, _ = self.after(self.begun("fork f { } 0", TWO), ())
        self.assertEqual(state[2:], (((1, None, ((0, 5), (1, 7))),), 3))
        self.assertEqual(self.places(state), {(): (1, None), F: (None, None)})

    def test_handle_given_over_holds(self):
        state = self.begun("fork f { write 0 1 } 0 write 1 8 fork g { join f a tell 1 } 1 f tell 1", TWO)
        state, _ = self.after(state, (), F, (), ())
        self.assertEqual(self.places(state), {(): (3, None), F: (2, 0), G: (4, 1)})
        state, _ = self.after(state, G)
        # What F wrote came to 4; 2 went, 0 was put together with 1.
        self.assertEqual(state[2], ((1, None, ((0, 5), (1, 8))), (3, 1, ()), (4, 1, ((0, 1),))))
        self.assertEqual(self.places(state), {(): (3, None), F: (None, None), G: (4, 1)})

    def test_handle_given_over_to_one_that_ends_at_once(self):
        state, _ = self.after(self.begun("fork f { tell 1 } 0 fork g { } 1 f tell 1", TWO), (), ())
        self.assertEqual(self.places(state), {(): (3, None), F: (2, None), G: (4, 1)})

    def test_several_put_together_one_behind_another(self):
        """Three who are held one below another come to an end by one step of the first one."""
        text = "fork f { write 0 1 fork g { write 1 2 fork h { tell 1 } 0 tell 1 } 0 tell 1 } 0 write 1 3 tell 1"
        state, _ = self.after(self.begun(text, TWO), (), F, F, (0, 0), (0, 0), (0, 0, 0), (0, 0), F, ())
        self.assertEqual(self.places(state), {(): (1, None), F: (3, 0), (0, 0): (None, None), (0, 0, 0): (None, None)})
        self.assertEqual(state[2], (self.TOP, (1, 0, ((1, 3),)), (3, 0, ((0, 1),))))
        state, _ = self.after(state, ())
        self.assertEqual(state[2], ((1, None, ((0, 5), (1, 3))),))

    def test_the_lower_ones_rows_stay(self):
        text = "write 0 1 fork f { } 0 write 0 2 fork f { } 0 write 0 3 fork f { } 0 add 1 1 tell 1"
        state, _ = self.after(self.begun(text, TWO), *[()] * 7)
        self.assertEqual(state[2:], (((3, None, ((0, 3), (1, 7))), (5, 3, ((1, 8),)), (6, 3, ())), 7))
        self.assertEqual(self.places(state), {(): (5, None), F: (None, None), G: (None, None), (2,): (6, 3)})

    def test_the_first_is_never_done_with(self):
        for text, word in (("tell 1", "ended"), ("fail", "failed")):
            state, _ = self.after(self.begun(text, TWO), ())
            self.assertEqual((self.row(state, ())[1], self.places(state)), (word, {(): (0, None)}))


class Drawn(Case):
    def drawn(self, chance):
        store = drawn_store(chance, chance.randint(1, 5))
        return store, drawn_program(chance, store, chance.choice((2, 3, 4)))

    def test_against_the_second_telling(self):
        chance = random.Random(40)
        many = 0
        for _ in range(400):
            store, program = self.drawn(chance)
            state, copies = begun(store, program), Copies(store, program, chance)
            self.assertTrue(same(state, copies.state()))
            while able(state):
                self.assertEqual((able(state), waiting(state)), (copies.able(), copies.waiting()))
                path = chance.choice(able(state))
                state, move = step(state, path)
                self.assertTrue(same(move, copies.step(path)))
                self.assertTrue(same(state, copies.state()), (store, program))
                many += 1
            self.assertEqual((copies.able(), copies.waiting(), waiting(state)), ((), (), ()))
            self.assertEqual(len(state[2]), 1)
        self.assertGreater(many, 3000)

    def test_all_that_cant_is_refused(self):
        chance = random.Random(41)
        for _ in range(100):
            store, program = self.drawn(chance)
            state = begun(store, program)
            while able(state):
                waits = dict(waiting(state))
                for row in state[1]:
                    told = refusal_of(step, state, row[0])
                    wanted = "waits" if row[0] in waits else "through" if row[1] != "runs" else None
                    self.assertEqual(told, wanted and ("NoStep", wanted))
                state, _ = step(state, chance.choice(able(state)))

    def test_forms_of_states(self):
        """[37], [41] of each STATE: what its parts are, and that nothing in it is spare."""
        chance = random.Random(42)
        for _ in range(150):
            store, program = self.drawn(chance)
            state = begun(store, program)
            while True:
                self.check_form(store, state)
                if not able(state):
                    break
                state, _ = step(state, chance.choice(able(state)))

    def check_form(self, store, state):
        kinds, rows, segments, made = state
        self.assertTrue(is_plain_told(state))
        self.assertEqual(kinds, tuple(kind for kind, _ in store))
        self.assertEqual(made, 2 * len(rows) - 1)
        numbers = [number for number, _, _ in segments]
        self.assertEqual(numbers, sorted(set(numbers)))
        self.assertLess(numbers[-1], made)
        self.assertEqual([above for _, above, _ in segments].count(None), 1)
        needed = {number for row in rows for number in row[7:]} - {None}
        self.assertLessEqual(needed, set(numbers))
        owns = [row[7] for row in rows if row[7] is not None]
        self.assertEqual(len(owns), len(set(owns)))
        for number, above, held in segments:
            self.assertTrue(above is None or (above < number and above in numbers))
            self.assertEqual([cell for cell, _ in held], sorted({cell for cell, _ in held}))
            if above is None:
                self.assertEqual([cell for cell, _ in held], list(range(len(store))))
            below = [lower for lower, upper, _ in segments if upper == number]
            self.assertTrue(number in needed or len(below) > 1)
