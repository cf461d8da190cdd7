"""[70], [71], [72]: a desk."""

import random
import unittest

from forkjoins.books import Book
from forkjoins.cuts import cut_ahead
from forkjoins.desk import Desk
from forkjoins.errors import JoinError, NoBack, NoLine, NoRevision, NoStep, NoText, RunError, TextError
from forkjoins.plain import plain_run
from forkjoins.readings import read_program
from forkjoins.storetexts import shown_path, shown_store, shown_values
from forkjoins.texts import shown_program
from forkjoins.ways import ways
from tests.drawing import drawn_program, drawn_store
from tests.things import any_things, refusal_of, same

LOOKS = ("values", "paths", "again", "deeds", "text", "way .", "told .", "begin .", "then 0")


class Case(unittest.TestCase):
    def setUp(self):
        self.desk = Desk()
        self.many = 0

    def after(self):
        """Each row that was begun is ended, and the desk is open."""
        self.many += 1
        self.assertTrue(same(self.desk.counts(), (self.many, self.many)))
        self.assertIs(self.desk.is_open(), True)

    def say(self, row, wanted):
        told = self.desk.say(row)
        self.assertIs(type(told), str)
        self.assertEqual(told, wanted)
        self.after()

    def told(self, row):
        self.many += 1
        return self.desk.say(row)

    def refused(self, row, *refusal):
        """Refused; and what the desk tells is as ahead of it."""
        before = [self.told(look) for look in LOOKS]
        told = refusal_of(self.desk.say, row)
        self.after()
        self.assertTrue(same(told, refusal), (row, told))
        self.assertEqual([self.told(look) for look in LOOKS], before)
        return told


class New(Case):
    def test_counts_and_open(self):
        self.assertTrue(same(self.desk.counts(), (0, 0)))
        self.assertIs(self.desk.is_open(), True)

    def test_looks(self):
        for row, wanted in (("values", "0"), ("paths", "."), ("way .", "ended"), ("told .", "-"), ("begin .", "0"), ("again", "-"), ("deeds", "0"),
                            ("text", "-"), ("then 0", "-")):
            self.say(row, wanted)

    def test_refusals(self):
        self.refused("back", "NoBack", 1)
        self.refused("then 1", "NoStep", "number")
        self.refused("cut 0", "NoStep", "way")
        self.refused("way 0", "NoRevision", (0,))

    def test_store_is_plain(self):
        self.say("change . write 0 5", "yes")
        self.refused("change . add 0 5", "NoStep", "store")
        self.refused("change . read a 1", "NoStep", "store")
        self.say("change . fork f { write 0 3 } 0 write 0 9 join f a", "yes")
        self.say("values", "3")

    def test_by_name(self):
        self.assertEqual(self.desk.say(row="values"), "0")

    def test_two_desks(self):
        other = Desk()
        self.say("change . tell 1", "yes")
        self.assertEqual(other.counts(), (0, 0))
        self.assertEqual(other.say("text"), "-")


class Store(Case):
    def test_new_book(self):
        self.say("change . tell 1", "yes")
        self.say("store sum:3 set: list:1,2 own(+,mine,-,theirs,base):7", "ok")
        self.say("values", "3 - 1,2 7")
        self.say("text", "-")
        self.say("deeds", "0")
        self.say("again", "-")
        self.refused("back", "NoBack", 1)

    def test_the_same_once_more(self):
        self.say("store plain:0", "ok")
        self.say("change . tell 1", "yes")
        self.say("store plain:0", "ok")
        self.say("deeds", "0")

    def test_no_store(self):
        self.say("change . tell 1", "yes")
        for text in ("store", "store ", "store  plain:0", "store plain:0 ", "store plain", "store plain:01", "store set:2,1", "store x", "store plain:0  sum:0",
                     "store own(+,+,+,+,1,2,3,4,5):0", "store plain:1000000000000", "store plain:0 | plain:0", "Store plain:0"):
            self.refused(text, "NoLine", text)


class Change(Case):
    def test_yes_and_no(self):
        self.say("change . tell 1", "yes")
        self.say("change . tell 1", "no")
        self.say("change . tell 2 | . tell 2 | . tell 3 tell 4", "yes no yes")
        self.say("deeds", "3")
        self.say("text", "tell 3 tell 4")
        self.say("told .", "3 4")

    def test_within(self):
        self.say("change . fork f { } 0 if 1 { } { } | 0.0 tell 1 | 1.0 tell 2 | 1.1 tell 3", "yes yes yes yes")
        self.say("text", "fork f { tell 1 } 0 if 1 { tell 2 } { tell 3 }")

    def test_void_program(self):
        self.say("change . tell 1", "yes")
        self.say("change . ", "yes")
        self.say("text", "-")
        self.say("change .  | . tell 2 | . ", "no yes yes")
        self.say("deeds", "4")

    def test_one_refused_in_the_middle(self):
        for row, refusal in (
                ("change . tell 1 | . tell x y | . tell 3", ("NoText", 1, 2)),
                ("change . tell 1 | . tell | . tell 3", ("NoText", 1, 1)),
                ("change . tell 1 | 5.0 tell 2 | . tell 3", ("NoStep", "way")),
                ("change . tell 1 | 0 tell 2 | . tell 3", ("NoStep", "kind")),
                ("change . tell 1 | . read a 7 | . tell 3", ("NoStep", "store")),
                ("change . tell 1 | . " + "tell 2 " * 30 + "tell 2 | . tell 3", ("NoStep", "many"))):
            self.desk, self.many = Desk(), 0
            self.assertEqual(refusal_of(self.desk.say, row), refusal)
            self.after()
            self.say("text", "tell 1")
            self.say("deeds", "1")
            self.say("again", ".=program")

    def test_no_text(self):
        for row, word in (("x", 0), ("tell", 1), ("tell 1 ", 2), (" tell 1", 0), ("tell  1", 1), ("tell 1 }", 2), ("tell 01", 1), ("fork f { tell 1 0", 5),
                          ("if 1 { } { ", 5), ("tell 1 |", 2), ("tell 1|. tell 2", 1), ("read a 0 tell + 1", 6)):
            self.refused("change . " + row, "NoText", 0, word)
        self.say("change . tell 1", "yes")
        self.refused("change . tell 1 | . tell 1 | . tell", "NoText", 2, 1)

    def test_no_text_ahead_of_what_the_book_refuses(self):
        self.refused("change 7 tell", "NoText", 0, 1)
        self.refused("change 7 tell 1", "NoStep", "way")

    def test_step_by_a_program_is_refused(self):
        self.say("change . tell 1", "yes")
        self.refused("change 0 tell 2", "NoStep", "kind")
        self.refused("change 0 ", "NoStep", "kind")

    def test_no_line(self):
        self.say("change . tell 1", "yes")
        for row in ("change", "change ", "change .", "change 0", "change  . tell 2", "change x tell 2", "change tell 2", "change -1 tell 2", "change 00 tell 2",
                    "change .. tell 2", "change 0. tell 2", "change 1000000000000 tell 2", "change . tell 2 | ", "change . tell 2 | .",
                    "change . tell 2 | x tell 3", "change | . tell 2", "change  | . tell 2", "change . tell 2 |  | . tell 3", "changes . tell 2",
                    "change . tell 2 | | . tell 3", "change . | . tell 3", "change (0,) tell 2"):
            told = self.refused(row, "NoLine", row)
            self.assertIs(told[1], row)

    def test_no_line_ahead_of_all_changes(self):
        """The row's form is looked at first: none of its CHANGES is done."""
        self.refused("change . tell 1 | x tell 2", "NoLine", "change . tell 1 | x tell 2")
        self.refused("change . tell | x tell 2", "NoLine", "change . tell | x tell 2")
        self.say("deeds", "0")


class Back(Case):
    def test_ordinary(self):
        self.say("change . tell 1 | . tell 2 | . tell 3 | . tell 4", "yes yes yes yes")
        self.say("back", "ok")
        self.say("text", "tell 3")
        self.say("back 2", "ok")
        self.say("text", "tell 1")
        self.say("deeds", "1")
        self.say("back 1", "ok")
        self.say("deeds", "0")

    def test_refused_by_the_book(self):
        self.say("change . tell 1", "yes")
        self.refused("back 0", "NoBack", 0)
        self.refused("back 2", "NoBack", 2)
        self.refused("back 999999999999", "NoBack", 999999999999)
        self.say("back", "ok")
        self.refused("back", "NoBack", 1)

    def test_no_line(self):
        self.say("change . tell 1", "yes")
        for row in ("back ", "back -1", "back 01", "back x", "back 1 ", "back  1", "back 1 1", "back 1000000000000", "back .", "back True", "backs"):
            self.refused(row, "NoLine", row)


class Looks(Case):
    def scene(self):
        self.say("store plain:5 set:1 list:", "ok")
        self.say("change . tell 1 fork f { write 0 6 tell 2 tell -3 } 0 fork g { tell 4 fork h { put 1 9 } 0 fail } 0 join f a join g b tell a tell b row 2 8", "yes")

    def test_values(self):
        self.scene()
        self.say("values", "6 1 8")

    def test_values_of_one_that_failed(self):
        self.say("change . write 0 1 fail", "yes")
        self.say("values", "-")
        self.say("way .", "failed")

    def test_paths(self):
        self.scene()
        self.say("paths", ". 0 1 1.0")

    def test_way(self):
        self.scene()
        for path, way in ((".", "ended"), ("0", "ended"), ("1", "failed"), ("1.0", "ended")):
            self.say("way " + path, way)

    def test_told(self):
        self.scene()
        for path, told in ((".", "1 1 0"), ("0", "2 -3"), ("1", "-"), ("1.0", "-")):
            self.say("told " + path, told)

    def test_begin(self):
        self.scene()
        self.say("begin .", "5 1 -")
        self.say("begin 1.0", "5 1 -")
        self.say("change . write 0 7 put 1 3 row 2 1 row 2 1 fork f { } 0", "yes")
        self.say("begin 0", "7 1,3 1,1")

    def test_no_revision(self):
        self.scene()
        for word in ("way", "told", "begin"):
            for text, path in (("2", (2,)), ("0.0", (0, 0)), ("1.1", (1, 1)), ("1.0.0", (1, 0, 0)), ("999999999999", (999999999999,))):
                self.refused(f"{word} {text}", "NoRevision", path)

    def test_again(self):
        self.scene()
        self.say("again", ".=program 0=new 1=new 1.0=new")
        self.say("change . let c 1 fork f { tell c } 0", "yes")
        self.say("again", ".=program 0=program")
        self.say("change . let c 2 fork f { tell c } 0", "yes")
        self.say("again", ".=program 0=read")
        self.say("change . let c 2 fork f { tell c } 0", "no")
        self.say("again", ".=program 0=read")
        self.say("back 3", "ok")
        self.say("again", ".=program")
        self.say("change . tell 1 | . ", "yes yes")
        self.say("back 2", "ok")
        self.say("again", "-")

    def test_deeds_text_then(self):
        self.say("change . tell 1 | . tell 1 | . tell 2", "yes no yes")
        self.say("deeds", "2")
        self.say("text", "tell 2")
        for k, text in enumerate(("-", "tell 1", "tell 2")):
            self.say(f"then {k}", text)
        self.refused("then 3", "NoStep", "number")
        self.refused("then 999999999999", "NoStep", "number")

    def test_cut(self):
        self.say("store sum:1 set:", "ok")
        self.say("change . add 0 1 if 1 { add 0 2 add 0 4 } { } fork f { add 0 8 add 0 16 } 0 join f a add 0 32", "yes")
        for way, values in (("0", "1 -"), ("1", "2 -"), ("1.0.0", "2 -"), ("1.0.1", "4 -"), ("2", "8 -"), ("2.0.0", "40 -"), ("2.0.1", "48 -"), ("3", "8 -"),
                            ("4", "32 -")):
            self.say("cut " + way, values)
        self.say("values", "64 -")
        for way in (".", "5", "1.0", "1.1.0", "2.0", "2.1.0", "2.0.2"):
            self.refused("cut " + way, "NoStep", "way")

    def test_cut_of_one_that_fails(self):
        self.say("change . write 0 1 join f a write 0 2", "yes")
        self.say("values", "-")
        self.say("cut 2", "-")
        self.say("cut 1", "1")

    def test_looks_are_no_deeds(self):
        self.scene()
        for look in LOOKS + ("cut 1",):
            self.told(look)
        self.say("deeds", "1")


class NoForm(Case):
    ROWS = (
        "", " ", "  ", "x", "VALUES", "Values", "value", "valuess", " values", "values ", "values .", "values 0", "paths ", "paths .", "path", "way", "way ",
        "way  .", "way . ", "way x", "way -1", "way 00", "way 0 0", "way 0,0", "way (0,)", "way ..", "way 0.", "way .0", "way 1000000000000", "told", "told ",
        "told x", "told . .", "begin", "begin ", "begin x", "begin 01", "again ", "again 0", "again .", "deeds ", "deeds 1", "text ", "text .", "then",
        "then ", "then x", "then -1", "then 01", "then 1000000000000", "then .", "then 0 0", "then 0.0", "cut", "cut ", "cut x", "cut 0 ", "cut -1", "cut 0.01",
        "ok", "-", "yes", "counts", "is_open", "say values", "values | paths", "values\n", "store\nplain:0", "|", "{", "." * 4000,
    )

    def test_each(self):
        for row in self.ROWS:
            told = self.refused(row, "NoLine", row)
            self.assertIs(told[1], row)

    def test_any_texts(self):
        for thing in any_things():
            if isinstance(thing, str):
                self.refused(thing, "NoLine", thing)


class Spy(str):
    """A row that looks at the desk when it is looked at."""

    def __hash__(self):
        self.seen.append((self.desk.is_open(), self.desk.counts()))
        return str.__hash__(self)

    def __eq__(self, other):
        return str.__eq__(self, other)


class Within(Case):
    def test_not_open_within_a_row(self):
        for row in ("values", "nonsense"):
            spy = Spy(row)
            spy.seen, spy.desk = [], self.desk
            refusal_of(self.desk.say, spy)
            self.assertTrue(spy.seen)
            self.assertEqual(set(spy.seen), {(False, (self.many + 1, self.many))})
            self.after()


class Families(Case):
    def test_each_refusal_by_its_names(self):
        for row, names in (("x", (NoLine, TextError)), ("change . tell", (NoText, TextError)), ("way 1", (NoRevision, RunError)),
                           ("then 1", (NoStep, RunError)), ("back", (NoBack, RunError))):
            for name in names + (JoinError, ValueError):
                with self.assertRaises(name):
                    self.desk.say(row)


class Drawn(Case):
    def test_against_books(self):
        chance = random.Random(70)
        for _ in range(80):
            store = drawn_store(chance, chance.randint(1, 4))
            program = drawn_program(chance, store, 3, 5)
            book = Book(store)
            self.desk, self.many = Desk(), 0
            self.say("store " + shown_store(store), "ok")
            if refusal_of(book.change, (), program) is not None:
                continue
            self.say("change . " + shown_program(program), "yes" if program else "no")
            rows = plain_run(store, program)
            self.say("values", shown_values(rows[0][6]) or "-")
            self.say("paths", " ".join(shown_path(row[0]) for row in rows))
            for path, way, told, _, _, begin, _ in rows:
                self.say("way " + shown_path(path), way)
                self.say("told " + shown_path(path), " ".join(map(str, told)) or "-")
                self.say("begin " + shown_path(path), shown_values(begin))
            self.say("text", shown_program(program) or "-")
            for way in ways(program):
                if len(way) % 2:
                    self.say("cut " + shown_path(way), shown_values(plain_run(store, cut_ahead(program, way))[0][6]) or "-")
            self.assertEqual(read_program(str(book)), program)
