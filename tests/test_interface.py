"""[2] and the interface: the names, the arguments, and that what is handed in stays as it is."""

import copy
import importlib
import inspect
import unittest

from tests.things import any_things, same

SIGNATURES = {
    "kinds": ("is_number(thing)", "is_word(thing)"),
    "sums": ("is_sum(thing)", "worth(amount, *, slots=())", "slots_of(amount)"),
    "stores": ("is_kind(thing)", "is_store(thing)", "can_have(kind, thing)", "kinds_of(store)", "values_of(store)",
               "with_values(store, values)"),
    "changes": ("changed(kind, has, *, word, number)",),
    "merges": ("merged(kind, *, base, mine, theirs)", "merged_cells(kinds, written, *, base, mine, theirs)"),
    "orders": ("numbers_of(amount)", "in_order(kind, *, mine, joins=())", "both_orders(kind, *, mine, one, other)",
               "order_paper(kind, *, same_base=False, reach=1)"),
    "orderchecker": ("lets_order(kind, thing, *, same_base=False)",),
    "programs": ("is_step(thing)", "is_program(thing)", "goes_with(program, store)", "cells_of(program, *, written=False)",
                 "fits(program, *, most=30, deep=5, forks=12)"),
    "plain": ("plain_run(store, program)", "programs_of(store, program)"),
    "rows": ("row_of(rows, path)", "lost(store, program)"),
    "diagram": ("diagram(store, program)",),
    "ahead": ("is_ahead(drawn, one, other)", "chain_or_cut(drawn, one, other)"),
    "aheadchecker": ("lets_chain(drawn, one, other, thing)", "lets_cut(drawn, one, other, thing)"),
    "renaming": ("renamed(program, *, slots=(), names=(), cells=())",),
    "texts": ("shown_program(program)",),
    "readings": ("read_program(text, *, line=0)",),
    "segments": ("seen_from(segments, number, cell)", "seen(segments, number)"),
    "states": ("begun(store, program)",),
    "steps": ("able(state)", "waiting(state)", "step(state, path)"),
    "paces": ("run(state, pace, *, most=400)", "finished(state, *, by=(0,))"),
    "views": ("view(state, path)", "beginning(state, path)"),
    "segmentpapers": ("places_paper(state)",),
    "segmentchecker": ("lets_places(state, thing)",),
    "events": ("events(store, program)", "comes_ahead(store, program, one, other)"),
    "races": ("races(store, program)",),
    "racepapers": ("race_paper(store, program)",),
    "racechecker": ("lets_races(store, program, thing)",),
    "threads": ("woven(store, program, *, pace=())", "end_of(store, program, schedule)"),
    "schedules": ("all_ends(store, program, *, most=3000)", "unlike(store, program, *, most=3000)"),
    "again": ("run_again(store, elder, newer)", "gone(store, elder, newer)"),
    "againchecker": ("lets_again(store, elder, newer, thing)",),
    "ways": ("ways(program)", "at_way(program, way)", "put_at(program, way, thing)"),
    "cuts": ("cut_ahead(program, way)",),
    "storetexts": ("shown_store(store)", "shown_values(values)", "shown_path(path)"),
    "storereader": ("read_store(text)", "read_path(text)"),
}
METHODS = {
    "books.Book": ("__init__(self, store, *, program=())", "change(self, way, thing)", "back(self, times=1)", "store_now(self)",
                   "program_now(self)", "rows_now(self)", "again_now(self)", "then(self, k)", "__len__(self)", "__str__(self)",
                   "__eq__(self, other)"),
    "desk.Desk": ("__init__(self)", "say(self, row)", "counts(self)", "is_open(self)"),
}
NUMBERS = {
    "orders.REACH": 1, "programs.MOST_STEPS": 30, "programs.MOST_DEEP": 5, "programs.MOST_FORKS": 12, "paces.LIMIT": 400,
    "schedules.MOST": 3000,
}
OF_ANY_THING = ("kinds.is_number", "kinds.is_word", "sums.is_sum", "stores.is_kind", "stores.is_store",
                "programs.is_step", "programs.is_program")


def module(name):
    return importlib.import_module("forkjoins." + name)


def found(dotted):
    name, function = dotted.split(".")
    return getattr(module(name), function)


class Names(unittest.TestCase):
    def test_functions_and_their_arguments(self):
        for name, rows in SIGNATURES.items():
            for row in rows:
                function = getattr(module(name), row[:row.index("(")])
                self.assertEqual(function.__name__ + str(inspect.signature(function)), row)
                self.assertEqual(function.__module__, "forkjoins." + name)


    def test_methods_stand_in_their_classes(self):
        for dotted, rows in METHODS.items():
            for row in rows:
                method = vars(found(dotted))[row[:row.index("(")]]
                self.assertEqual(method.__name__ + str(inspect.signature(method)), row)

    def test_numbers(self):
        for dotted, number in NUMBERS.items():
            self.assertTrue(same(found(dotted), number), dotted)


class AnyThing(unittest.TestCase):
    def test_just_true_or_false_and_nothing_changed(self):
        for dotted in OF_ANY_THING:
            for thing in any_things():
                kept = copy.deepcopy(thing)
                self.assertIn(found(dotted)(thing), (True, False))
                self.assertIs(type(found(dotted)(thing)), bool)
                self.assertTrue(same(thing, kept))
