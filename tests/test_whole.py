"""[2], [9] over the whole program: arguments by their names in any order, things handed in that stay, refusals by each name."""

import copy
import importlib
import inspect
import unittest

from forkjoins import errors
from forkjoins.again import run_again
from forkjoins.ahead import chain_or_cut
from forkjoins.books import Book
from forkjoins.desk import Desk
from forkjoins.diagram import diagram
from forkjoins.orders import order_paper
from forkjoins.paces import run
from forkjoins.plain import plain_run
from forkjoins.racepapers import race_paper
from forkjoins.readings import read_program
from forkjoins.segmentpapers import places_paper
from forkjoins.states import begun
from forkjoins.threads import woven
from tests.test_interface import SIGNATURES
from tests.things import is_plain_told, same

STORE = (("plain", 5), ("sum", 7), ("set", (1,)), ("list", ()))
TEXT = "write 0 2 fork f { read a 0 add 1 a tell a } 0 read b 1 join f c put 2 b row 3 c tell b"
PROGRAM = read_program(TEXT)
NEWER = read_program("write 0 3 fork f { read a 0 add 1 a tell a } 0 join f c")
AMOUNT = ("plus", ("slot", "a"), ("num", 2))
ON = {"store": STORE, "program": PROGRAM}
BOTH = {"store": STORE, "elder": PROGRAM, "newer": NEWER}
DRAWN = diagram(STORE, PROGRAM)
ENDS = {"drawn": DRAWN, "one": ((), 0), "other": ((), 3)}
STATE = run(begun(STORE, PROGRAM), (0, 0, 1))[0]
SAMPLES = {
    "kinds.is_number": {"thing": 5}, "kinds.is_word": {"thing": "a"}, "sums.is_sum": {"thing": AMOUNT},
    "sums.worth": {"amount": AMOUNT, "slots": (("a", 3),)}, "sums.slots_of": {"amount": AMOUNT},
    "stores.is_kind": {"thing": "set"}, "stores.is_store": {"thing": STORE}, "stores.can_have": {"kind": "set", "thing": (1, 2)},
    "stores.kinds_of": {"store": STORE}, "stores.values_of": {"store": STORE},
    "stores.with_values": {"store": STORE, "values": (1, 2, (), (3, 3))},
    "changes.changed": {"kind": "set", "has": (1,), "word": "put", "number": 0},
    "merges.merged": {"kind": "sum", "base": 1, "mine": 3, "theirs": 6},
    "merges.merged_cells": {"kinds": ("sum", "plain"), "written": (0,), "base": (1, 1), "mine": (3, 2), "theirs": (6, 5)},
    "orders.numbers_of": {"amount": AMOUNT}, "orders.in_order": {"kind": "plain", "mine": 1, "joins": ((1, 2), (1, 3))},
    "orders.both_orders": {"kind": "plain", "mine": 1, "one": (1, 2), "other": (1, 3)},
    "orders.order_paper": {"kind": "set", "same_base": True, "reach": 1},
    "orderchecker.lets_order": {"kind": "set", "thing": order_paper("set", same_base=True), "same_base": True},
    "programs.is_step": {"thing": PROGRAM[0]}, "programs.is_program": {"thing": PROGRAM}, "programs.goes_with": ON,
    "programs.cells_of": {"program": PROGRAM, "written": True}, "programs.fits": {"program": PROGRAM, "most": 10, "deep": 2, "forks": 1},
    "plain.plain_run": ON, "plain.programs_of": ON, "rows.row_of": {"rows": plain_run(STORE, PROGRAM), "path": (0,)}, "rows.lost": ON,
    "diagram.diagram": ON, "ahead.is_ahead": ENDS, "ahead.chain_or_cut": ENDS,
    "aheadchecker.lets_chain": {**ENDS, "thing": chain_or_cut(DRAWN, ((), 0), ((), 3))[1]},
    "aheadchecker.lets_cut": {"drawn": DRAWN, "one": ((), 3), "other": ((), 0), "thing": chain_or_cut(DRAWN, ((), 3), ((), 0))[1]},
    "renaming.renamed": {"program": PROGRAM, "slots": (("a", "b"), ("b", "a")), "names": (("f", "g"),), "cells": ((0, 9),)},
    "texts.shown_program": {"program": PROGRAM}, "readings.read_program": {"text": TEXT, "line": 4},
    "segments.seen_from": {"segments": STATE[2], "number": 1, "cell": 0}, "segments.seen": {"segments": STATE[2], "number": 1},
    "states.begun": ON, "steps.able": {"state": STATE}, "steps.waiting": {"state": STATE}, "steps.step": {"state": STATE, "path": (0,)},
    "paces.run": {"state": STATE, "pace": (1, 0), "most": 1}, "paces.finished": {"state": STATE, "by": (1, 0)},
    "views.view": {"state": STATE, "path": (0,)}, "views.beginning": {"state": STATE, "path": (0,)},
    "segmentpapers.places_paper": {"state": STATE}, "segmentchecker.lets_places": {"state": STATE, "thing": places_paper(STATE)},
    "events.events": ON, "events.comes_ahead": {**ON, "one": ((), 0), "other": ((0,), 0)}, "races.races": ON,
    "racepapers.race_paper": ON, "racechecker.lets_races": {**ON, "thing": race_paper(STORE, PROGRAM)},
    "threads.woven": {**ON, "pace": (1, 0)}, "threads.end_of": {**ON, "schedule": woven(STORE, PROGRAM)},
    "schedules.all_ends": {**ON, "most": 100}, "schedules.unlike": {**ON, "most": 100},
    "again.run_again": BOTH, "again.gone": BOTH, "againchecker.lets_again": {**BOTH, "thing": run_again(**BOTH)[1]},
    "ways.ways": {"program": PROGRAM}, "ways.at_way": {"program": PROGRAM, "way": (1, 0, 1)},
    "ways.put_at": {"program": PROGRAM, "way": (1, 0), "thing": ()}, "cuts.cut_ahead": {"program": PROGRAM, "way": (1, 0, 1)},
    "storetexts.shown_store": {"store": STORE}, "storetexts.shown_values": {"values": (5, (), (1, 2))},
    "storetexts.shown_path": {"path": (0, 1)}, "storereader.read_store": {"text": "plain:5 set:"}, "storereader.read_path": {"text": "0.1"},
}
REFUSED = (
    ("NoPaper", "PaperError", "orderchecker.lets_order", {"kind": "set", "thing": None}),
    ("NoPaper", "PaperError", "aheadchecker.lets_chain", {**ENDS, "thing": None}),
    ("NoPaper", "PaperError", "aheadchecker.lets_cut", {**ENDS, "thing": None}),
    ("NoPaper", "PaperError", "segmentchecker.lets_places", {"state": STATE, "thing": None}),
    ("NoPaper", "PaperError", "racechecker.lets_races", {**ON, "thing": None}),
    ("NoPaper", "PaperError", "againchecker.lets_again", {**BOTH, "thing": None}),
    ("NoRevision", "RunError", "rows.row_of", {"rows": plain_run(STORE, PROGRAM), "path": (7,)}),
    ("NoRevision", "RunError", "ahead.is_ahead", {**ENDS, "one": None}),
    ("NoRevision", "RunError", "ahead.chain_or_cut", {**ENDS, "one": None}),
    ("NoRevision", "RunError", "steps.step", {"state": STATE, "path": None}),
    ("NoRevision", "RunError", "views.view", {"state": STATE, "path": None}),
    ("NoRevision", "RunError", "views.beginning", {"state": STATE, "path": ()}),
    ("NoRevision", "RunError", "events.comes_ahead", {**ON, "one": None, "other": None}),
    ("NoRevision", "RunError", "threads.end_of", {**ON, "schedule": (None,)}),
    ("NoStep", "RunError", "changes.changed", {"kind": "set", "has": (1,), "word": "row", "number": 0}),
    ("NoStep", "RunError", "threads.end_of", {**ON, "schedule": ()}),
    ("NoStep", "RunError", "schedules.all_ends", {**ON, "most": 1}),
    ("NoStep", "RunError", "schedules.unlike", {**ON, "most": 1}),
    ("NoStep", "RunError", "ways.at_way", {"program": PROGRAM, "way": None}),
    ("NoStep", "RunError", "ways.put_at", {"program": PROGRAM, "way": (), "thing": None}),
    ("NoStep", "RunError", "cuts.cut_ahead", {"program": PROGRAM, "way": ()}),
    ("NoText", "TextError", "readings.read_program", {"text": "x"}),
    ("NoText", "TextError", "storereader.read_store", {"text": "x"}),
    ("NoText", "TextError", "storereader.read_path", {"text": "x"}),
)
BY_METHODS = (
    ("NoStep", "RunError", lambda: Book(STORE).change((), None)),
    ("NoStep", "RunError", lambda: Book(STORE).then(None)),
    ("NoBack", "RunError", lambda: Book(STORE).back(None)),
    ("NoLine", "TextError", lambda: Desk().say("")),
    ("NoText", "TextError", lambda: Desk().say("change . x")),
)


def found(dotted):
    name, function = dotted.split(".")
    return getattr(importlib.import_module("forkjoins." + name), function)


class Arguments(unittest.TestCase):
    def test_samples_of_all_functions(self):
        named = {name + "." + row[:row.index("(")] for name, rows in SIGNATURES.items() for row in rows}
        self.assertEqual(named, set(SAMPLES))

    def test_by_places_and_by_names_in_other_orders(self):
        for dotted, sample in SAMPLES.items():
            function = found(dotted)
            kept = copy.deepcopy(sample)
            parameters = inspect.signature(function).parameters
            self.assertEqual(set(parameters), set(sample), dotted)
            placed = [sample[name] for name in parameters if parameters[name].kind is not inspect.Parameter.KEYWORD_ONLY]
            others = {name: sample[name] for name in parameters if parameters[name].kind is inspect.Parameter.KEYWORD_ONLY}
            told = function(*placed, **others)
            self.assertTrue(is_plain_told(told), dotted)
            for names in (list(sample), list(reversed(sample)), sorted(sample)):
                self.assertTrue(same(function(**{name: sample[name] for name in names}), told), dotted)
            self.assertTrue(same(list(sample.values()), list(kept.values())), dotted)

    def test_behind_a_star_by_names_alone(self):
        for dotted, sample in SAMPLES.items():
            parameters = inspect.signature(found(dotted)).parameters.values()
            if any(each.kind is inspect.Parameter.KEYWORD_ONLY for each in parameters):
                with self.assertRaises(TypeError):
                    found(dotted)(*[sample[each.name] for each in parameters])

    def test_asked_twice_and_after_others(self):
        first = {dotted: found(dotted)(**sample) for dotted, sample in SAMPLES.items()}
        for dotted in reversed(list(SAMPLES)):
            self.assertTrue(same(found(dotted)(**SAMPLES[dotted]), first[dotted]), dotted)


class Refusals(unittest.TestCase):
    def taken(self, name, family, call):
        for taken in (name, family, "JoinError"):
            with self.assertRaises(getattr(errors, taken)) as held:
                call()
            self.assertEqual(type(held.exception).__name__, name)

    def test_each_function(self):
        for name, family, dotted, sample in REFUSED:
            kept = copy.deepcopy(sample)
            self.taken(name, family, lambda: found(dotted)(**sample))
            self.assertTrue(same(list(sample.values()), list(kept.values())), dotted)

    def test_books_and_desks(self):
        for name, family, call in BY_METHODS:
            self.taken(name, family, call)
