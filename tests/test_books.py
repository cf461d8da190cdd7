"""[66], [67]: books."""

import copy
import random
import unittest

from forkjoins.again import run_again
from forkjoins.books import Book
from forkjoins.plain import plain_run
from forkjoins.programs import fits, goes_with
from forkjoins.readings import read_program
from forkjoins.texts import shown_program
from forkjoins.ways import put_at, ways
from tests.drawing import drawn_program, drawn_step, drawn_store
from tests.test_again import reasons_between
from tests.test_ways import NO_WAYS, PROGRAM
from tests.things import any_things, is_plain_told, refusal_of, same

STORE = (("plain", 5), ("sum", 7), ("set", (1,)), ("list", ()))
TELL = ("tell", ("num", 1))
FAIL = ("fail",)
GREATEST = 10 ** 199


def texts(*rows):
    return [read_program(row) for row in rows]


class Case(unittest.TestCase):
    def told(self, book):
        """All that a book tells."""
        return (book.store_now(), book.program_now(), book.rows_now(), book.again_now(), len(book), str(book),
                tuple(book.then(k) for k in range(len(book) + 1)))

    def refused(self, book, refusal, method, *args):
        """Refused, and nothing is changed by it."""
        before, kept = self.told(book), copy.deepcopy(args)
        told = refusal_of(getattr(book, method), *args)
        self.assertEqual(told[0], refusal[0])
        self.assertTrue(same(told[1:], refusal[1:]), (told, args))
        self.assertTrue(same(self.told(book), before))
        self.assertTrue(same(args, kept))
        return told


class New(Case):
    def test_without_a_program(self):
        book = Book(STORE)
        self.assertTrue(same(self.told(book), (STORE, (), plain_run(STORE, ()), (), 0, "", ((),))))

    def test_with_a_program(self):
        book = Book(STORE, program=PROGRAM)
        self.assertTrue(same(self.told(book), (STORE, PROGRAM, plain_run(STORE, PROGRAM), (), 0, shown_program(PROGRAM), (PROGRAM,))))

    def test_by_names(self):
        book = Book(program=PROGRAM, store=STORE)
        self.assertEqual(book.program_now(), PROGRAM)
        self.assertIs(book.change(thing=(TELL,), way=()), True)
        self.assertEqual(book.then(k=0), PROGRAM)
        self.assertEqual(book.back(times=1), PROGRAM)

    def test_program_by_its_name_alone(self):
        with self.assertRaises(TypeError):
            Book(STORE, PROGRAM)


class Change(Case):
    def test_that_turns_something(self):
        book = Book(STORE, program=(TELL, TELL))
        self.assertIs(book.change((1,), FAIL), True)
        self.assertEqual(book.program_now(), (TELL, FAIL))
        self.assertIs(book.change((), (TELL,)), True)
        self.assertEqual(book.program_now(), (TELL,))
        self.assertEqual(len(book), 2)

    def test_that_turns_nothing(self):
        book = Book(STORE, program=(TELL, TELL))
        for way, thing in (((), (TELL, TELL)), ((0,), TELL), ((1,), TELL)):
            self.assertIs(book.change(way, thing), False)
        self.assertEqual(len(book), 0)
        book.change((0,), FAIL)
        self.assertIs(book.change((0,), FAIL), False)
        self.assertEqual(len(book), 1)

    def test_there_and_back_are_two_deeds(self):
        book = Book(STORE, program=(TELL,))
        self.assertEqual([book.change((0,), FAIL), book.change((0,), TELL)], [True, True])
        self.assertEqual(len(book), 2)

    def test_way(self):
        book = Book(STORE, program=PROGRAM)
        for thing in any_things() + NO_WAYS:
            self.refused(book, ("NoStep", "way"), "change", thing, TELL)
            self.refused(book, ("NoStep", "way"), "change", thing, None)

    def test_kind(self):
        book = Book(STORE, program=PROGRAM)
        for thing in any_things() + [TELL, 0, [TELL], (TELL, ("tell", ("num", True))), Book(STORE)]:
            if isinstance(thing, Book):
                self.assertEqual(refusal_of(book.change, (), thing), ("NoStep", "kind"))
            else:
                self.refused(book, ("NoStep", "kind"), "change", (), thing)
        for thing in any_things() + [(TELL,), (), ("tell", ("num", True))]:
            self.refused(book, ("NoStep", "kind"), "change", (0,), thing)

    def test_true_is_no_1(self):
        book = Book(STORE, program=(TELL,))
        self.refused(book, ("NoStep", "kind"), "change", (0,), ("tell", ("num", True)))
        self.refused(book, ("NoStep", "kind"), "change", (), (("tell", ("num", True)),))
        self.refused(book, ("NoStep", "way"), "change", (False,), TELL)

    def test_store(self):
        book = Book(STORE, program=PROGRAM)
        for step in (("read", "a", 4), ("write", 2, ("num", 1)), ("add", 0, ("num", 1)), ("put", 1, ("num", 1)), ("row", 2, ("num", 1)),
                     ("has", "a", 3, ("num", 1)), ("take", 3, ("num", 1)), ("if", ("num", 0), (("read", "a", GREATEST),), ())):
            self.refused(book, ("NoStep", "store"), "change", (0,), step)
            self.refused(book, ("NoStep", "store"), "change", (1, 0, 1, 0), (TELL, step))

    def test_many(self):
        book = Book(STORE, program=PROGRAM)
        deep = (TELL,)
        for _ in range(4):
            deep = (("if", ("num", 1), deep, ()),)
        self.assertIs(book.change((), (TELL,) * 30), True)
        self.assertIs(book.change((), deep), True)
        self.assertIs(book.change((), (("fork", "f", (), ()),) * 12), True)
        for program in ((TELL,) * 31, (("if", ("num", 1), deep, ()),), (("fork", "f", (), ()),) * 13):
            self.refused(book, ("NoStep", "many"), "change", (), program)
        self.refused(book, ("NoStep", "many"), "change", (0, 0), (TELL,) * 19)
        self.assertIs(book.change((0, 0), (TELL,) * 18), True)

    def test_order_of_refusals(self):
        book = Book(STORE, program=(TELL,))
        far = ("read", "a", 9)
        self.refused(book, ("NoStep", "way"), "change", (1,), far)
        self.refused(book, ("NoStep", "kind"), "change", (), (far,) * 40 + (None,))
        self.refused(book, ("NoStep", "store"), "change", (), (far,) * 40)
        self.refused(book, ("NoStep", "many"), "change", (), (TELL,) * 40)


class Back(Case):
    def book(self):
        book = Book(STORE)
        for text in ("tell 1", "tell 2", "tell 3", "tell 4"):
            book.change((), read_program(text))
        return book

    def test_by_one(self):
        book = self.book()
        self.assertEqual([book.back() for _ in range(4)], texts("tell 3", "tell 2", "tell 1", ""))
        self.assertEqual(len(book), 0)

    def test_by_several(self):
        book = self.book()
        self.assertEqual(book.back(3), read_program("tell 1"))
        self.assertEqual((len(book), book.program_now()), (1, read_program("tell 1")))
        self.assertEqual([book.then(0), book.then(1)], texts("", "tell 1"))

    def test_by_all(self):
        book = self.book()
        self.assertEqual(book.back(4), ())
        self.assertEqual((len(book), str(book)), (0, ""))
        self.refused(book, ("NoBack", 1), "back")

    def test_no_such_many(self):
        book = self.book()
        for times in any_things() + [0, -1, 5, GREATEST, -GREATEST, True, False, "1", "", (1,), [1], None, Book(STORE)]:
            if isinstance(times, Book):
                self.assertEqual(refusal_of(book.back, times)[0], "NoBack")
            else:
                told = self.refused(book, ("NoBack", times), "back", times)
                self.assertIs(told[1], times)

    def test_new_one(self):
        self.refused(Book(STORE), ("NoBack", 1), "back")
        self.refused(Book(STORE, program=PROGRAM), ("NoBack", 1), "back", 1)

    def test_going_on_behind_it(self):
        book = self.book()
        book.back(2)
        book.change((), read_program("tell 9"))
        self.assertEqual([book.then(k) for k in range(4)], texts("", "tell 1", "tell 2", "tell 9"))
        self.assertEqual(len(book), 3)
        self.assertEqual(book.back(), read_program("tell 2"))

    def test_a_change_that_told_false_is_no_deed(self):
        book = self.book()
        book.change((), read_program("tell 4"))
        self.assertEqual(book.back(), read_program("tell 3"))


class Then(Case):
    def test_each(self):
        book = Book(STORE, program=(TELL,))
        book.change((), texts("tell 2")[0])
        book.change((0,), FAIL)
        self.assertEqual([book.then(0), book.then(1), book.then(2)], [(TELL,), texts("tell 2")[0], (FAIL,)])

    def test_no_number(self):
        book = Book(STORE, program=(TELL,))
        book.change((0,), FAIL)
        for k in any_things() + [-1, 2, GREATEST, True, False, "0", "", (0,), [0], None]:
            self.refused(book, ("NoStep", "number"), "then", k)
        self.refused(Book(STORE), ("NoStep", "number"), "then", 1)


class Again(Case):
    def book(self):
        return Book(STORE, program=read_program("write 0 1 fork f { read a 0 } 0 fork g { read a 1 } 0"))

    def check(self, book, elder):
        """As [61] has it of the elder PROGRAM and that of now: any REASON."""
        reasons, _ = reasons_between(book.store_now(), elder, book.program_now())
        told = book.again_now()
        self.assertTrue(is_plain_told(told))
        self.assertEqual([path for path, _ in told], sorted(reasons))
        for path, reason in told:
            self.assertIn(reason, reasons[path])

    def test_behind_a_change(self):
        book = self.book()
        elder = book.program_now()
        book.change((0,), ("write", 0, ("num", 2)))
        self.check(book, elder)
        self.assertEqual(book.again_now(), (((), ("program",)), ((0,), ("read", ("cell", 0, 1)))))

    def test_behind_one_that_told_false(self):
        book = self.book()
        book.change((0,), ("write", 0, ("num", 2)))
        kept = book.again_now()
        book.change((0,), ("write", 0, ("num", 2)))
        self.assertEqual(book.again_now(), kept)

    def test_behind_a_refused_one(self):
        book = self.book()
        book.change((0,), ("write", 0, ("num", 2)))
        self.refused(book, ("NoStep", "kind"), "change", (0,), None)
        self.refused(book, ("NoBack", 2), "back", 2)
        self.assertEqual(len(book.again_now()), 2)

    def test_behind_a_back(self):
        book = self.book()
        first = book.program_now()
        book.change((0,), ("write", 0, ("num", 2)))
        book.change((2, 0), (TELL,))
        third = book.program_now()
        book.back(2)
        self.check(book, third)
        self.assertEqual(book.again_now(),
                         (((), ("program",)), ((0,), ("read", ("cell", 0, 2))), ((1,), ("program",))))
        self.assertEqual(book.program_now(), first)

    def test_behind_a_back_to_the_same(self):
        """From the PROGRAM ahead of the call to that behind it, not by the deeds between."""
        book = Book(STORE, program=(TELL,))
        book.change((0,), FAIL)
        book.change((0,), TELL)
        self.assertEqual(book.back(2), (TELL,))
        self.assertEqual(book.again_now(), ())


class Likeness(Case):
    def test_whatever_their_deeds(self):
        one, other = Book(STORE), Book(STORE, program=(TELL,))
        self.assertIs(one == other, False)
        self.assertIs(one != other, True)
        one.change((), (FAIL,))
        one.change((), (TELL,))
        self.assertIs(one == other, True)
        self.assertIs(one != other, False)
        self.assertNotEqual(len(one), len(other))
        one.back()
        self.assertIs(one == other, False)

    def test_stores(self):
        self.assertIs(Book(STORE) == Book((("plain", 6),) + STORE[1:]), False)
        self.assertIs(Book(STORE) == Book((("sum", 5),) + STORE[1:]), False)
        self.assertIs(Book(STORE) == Book(STORE[:3]), False)
        self.assertIs(Book(STORE) == Book(copy.deepcopy(STORE)), True)

    def test_other_things(self):
        book = Book(STORE, program=(TELL,))
        for thing in any_things() + [(TELL,), STORE, 0, 1, "tell 1", (STORE, (TELL,)), "", None, ()]:
            self.assertIs(book == thing, False)
            self.assertIs(thing == book, False)
            self.assertIs(book != thing, True)
        self.assertIs(book == book, True)


class Alone(Case):
    def test_two_books_of_one_store(self):
        one, other = Book(STORE), Book(STORE)
        one.change((), (TELL,))
        self.assertTrue(same(self.told(other), (STORE, (), plain_run(STORE, ()), (), 0, "", ((),))))
        other.change((), (FAIL,))
        self.assertEqual((one.program_now(), other.program_now()), ((TELL,), (FAIL,)))
        one.back()
        self.assertEqual((len(one), len(other)), (0, 1))

    def test_told_is_made_of_tuples(self):
        """So nobody can turn it."""
        book = Book(STORE, program=PROGRAM)
        book.change((2, 0), (TELL,))
        self.assertTrue(is_plain_told(self.told(book)))
        self.assertTrue(is_plain_told(book.back()))

    def test_len_and_str_are_plain(self):
        book = Book(STORE, program=PROGRAM)
        self.assertIs(type(str(book)), str)
        self.assertIs(type(len(book)), int)

    def test_text_is_read_back(self):
        book = Book(STORE, program=PROGRAM)
        self.assertEqual(read_program(str(book)), PROGRAM)


class Drawn(Case):
    def test_by_a_list_of_all_programs(self):
        """A second telling: just the PROGRAMS behind each deed, and the last two that again hangs on."""
        chance = random.Random(66)
        deeds = {"yes": 0, "no": 0, "refused": 0, "back": 0}
        for _ in range(60):
            store = drawn_store(chance, 3)
            past = [drawn_program(chance, store, 2, 4)]
            book = Book(store, program=past[0])
            again = ()
            for _ in range(15):
                elder = past[-1]
                if len(past) > 1 and chance.random() < 0.3:
                    times = chance.randint(1, len(past) - 1)
                    del past[-times:]
                    self.assertEqual(book.back(times), past[-1])
                    again = run_again(store, elder, past[-1])[1]
                    deeds["back"] += 1
                else:
                    way = chance.choice(ways(elder))
                    thing = drawn_step(chance, store + (("set", ()),), 1, []) if len(way) % 2 else drawn_program(chance, store, 2, 12)
                    newer = put_at(elder, way, thing)
                    if newer == elder or not (goes_with(newer, store) and fits(newer)):
                        wanted = ("NoStep", "many" if goes_with(newer, store) else "store") if newer != elder else None
                        self.assertEqual(refusal_of(book.change, way, thing), wanted)
                        deeds["no" if wanted is None else "refused"] += 1
                    else:
                        self.assertIs(book.change(way, thing), True)
                        past.append(newer)
                        again = run_again(store, elder, newer)[1]
                        deeds["yes"] += 1
                self.assertTrue(same(self.told(book), (store, past[-1], plain_run(store, past[-1]), again, len(past) - 1,
                                                       shown_program(past[-1]), tuple(past))))
        self.assertTrue(all(many > 4 for many in deeds.values()), deeds)
