"""[30]: the checkers of CHAINS and CUTS."""

import copy
import itertools
import unittest

from forkjoins.ahead import chain_or_cut
from forkjoins.aheadchecker import lets_chain, lets_cut
from forkjoins.diagram import diagram
from forkjoins.errors import NoPaper
from tests.diagrams import STORE, TELL, ahead_in, fork, links_in, points_of, small_diagrams
from tests.things import any_things, refusal_of, same

# (): fork (0,), tell, join (0,), fork (1,), tell, END; (0,): tell, END; (1,): tell, END.
DRAWN = diagram(STORE, (fork("f", TELL), TELL, ("join", "f", "a"), fork("g", TELL), TELL))
# Things that are no POINTS of DRAWN, of like look as some that are.
NO_POINTS = [
    ((), 6), ((), -1), ((0,), 2), ((1,), 2), ((2,), 0), ((0, 0), 0), [(), 0], ([], 0), ([0], 0), ((), True), ((), False),
    ((False,), 0), ((True,), 0), ((0,), True), ((),), ((), 0, 0), (), ((), None), ((), (0,)), (0, 0), None, 0, "", ((), "0"),
]


class Case(unittest.TestCase):
    def lets(self, function, one, other, thing, drawn=DRAWN):
        kept = copy.deepcopy(thing)
        self.assertIs(function(drawn, one, other, thing), True)
        self.assertTrue(same(thing, kept))

    def refused(self, function, one, other, thing, word, at, drawn=DRAWN):
        kept = copy.deepcopy(thing)
        told = refusal_of(function, drawn, one, other, thing)
        self.assertTrue(same(told, ("NoPaper", word, at)), (told, word, at, thing))
        self.assertTrue(same(thing, kept))


class Chains(Case):
    def test_along_one_revision(self):
        self.lets(lets_chain, ((), 0), ((), 1), (((), 0), ((), 1)))
        self.lets(lets_chain, ((), 1), ((), 5), tuple(((), n) for n in range(1, 6)))

    def test_through_a_fork(self):
        self.lets(lets_chain, ((), 0), ((0,), 0), (((), 0), ((0,), 0)))
        self.lets(lets_chain, ((), 2), ((1,), 1), (((), 2), ((), 3), ((1,), 0), ((1,), 1)))

    def test_through_an_end_and_its_join(self):
        self.lets(lets_chain, ((0,), 1), ((), 2), (((0,), 1), ((), 2)))
        self.lets(lets_chain, ((0,), 0), ((), 3), (((0,), 0), ((0,), 1), ((), 2), ((), 3)))
        self.lets(lets_chain, ((), 0), ((), 2), (((), 0), ((0,), 0), ((0,), 1), ((), 2)))

    def test_shape(self):
        for thing in any_things() + [(), (((), 0),), [((), 0), ((), 1)], [], 7, "((), 0)"]:
            if not isinstance(thing, tuple) or len(thing) < 2:
                self.refused(lets_chain, ((), 0), ((), 1), thing, "shape", -1)

    def test_point(self):
        for wrong in NO_POINTS + [thing for thing in any_things() if not same(thing, ((), 1))]:
            self.refused(lets_chain, ((), 0), ((), 1), (wrong, ((), 1)), "point", 0)
            self.refused(lets_chain, ((), 0), ((), 1), (((), 0), wrong), "point", 1)
            self.refused(lets_chain, ((), 0), ((), 2), (((), 0), ((), 1), wrong, wrong), "point", 2)

    def test_point_ahead_of_begin_end_and_link(self):
        self.refused(lets_chain, ((), 0), ((), 1), (((), 4), ((), 9), ((), 9)), "point", 1)
        self.refused(lets_chain, ((), 0), ((), 1), (((), 4), ((), 0), ((), 9)), "point", 2)

    def test_begin(self):
        self.refused(lets_chain, ((), 0), ((), 2), (((), 1), ((), 2)), "begin", -1)
        # The end and a link are wrong, too.
        self.refused(lets_chain, ((), 0), ((), 2), (((), 1), ((0,), 0)), "begin", -1)

    def test_end(self):
        self.refused(lets_chain, ((), 0), ((), 2), (((), 0), ((), 1)), "end", -1)
        self.refused(lets_chain, ((), 0), ((), 2), (((), 0), ((), 3)), "end", -1)
        self.refused(lets_chain, ((), 0), ((), 0), (((), 0), ((), 1)), "end", -1)

    def test_link(self):
        self.refused(lets_chain, ((), 0), ((), 2), (((), 0), ((), 2)), "link", 0)
        self.refused(lets_chain, ((), 0), ((), 4), (((), 0), ((), 1), ((), 3), ((), 3), ((), 4)), "link", 1)
        self.refused(lets_chain, ((), 0), ((), 0), (((), 0), ((), 0)), "link", 0)
        self.refused(lets_chain, ((), 1), ((), 0), (((), 1), ((), 0)), "link", 0)
        # No fork leads to another one's revision or past its first point, no end to another join.
        self.refused(lets_chain, ((), 0), ((1,), 0), (((), 0), ((1,), 0)), "link", 0)
        self.refused(lets_chain, ((), 0), ((0,), 1), (((), 0), ((0,), 1)), "link", 0)
        self.refused(lets_chain, ((1,), 1), ((), 2), (((1,), 1), ((), 2)), "link", 0)
        self.refused(lets_chain, ((0,), 0), ((), 2), (((0,), 0), ((), 2)), "link", 0)
        self.refused(lets_chain, ((0,), 1), ((), 3), (((0,), 1), ((), 3)), "link", 0)

    def test_join_of_none_is_no_links_end(self):
        drawn = diagram(STORE, (fork("f"), ("join", "g", "a")))
        self.refused(lets_chain, ((0,), 0), ((), 1), (((0,), 0), ((), 1)), "link", 0, drawn=drawn)
        self.lets(lets_chain, ((), 0), ((), 2), (((), 0), ((), 1), ((), 2)), drawn=drawn)


class Cuts(Case):
    def test_void_where_the_one_links_to_none(self):
        for one in (((), 5), ((1,), 1)):
            self.lets(lets_cut, one, ((), 0), ())
            self.lets(lets_cut, one, one, ())
        self.refused(lets_cut, ((), 4), ((), 0), (), "one", -1)

    def test_ones_that_arent_told(self):
        least = chain_or_cut(DRAWN, ((1,), 0), ((), 0))
        self.assertEqual(least, ("cut", (((1,), 1),)))
        for cut in ((((1,), 1),), (((1,), 0), ((1,), 1)), (((), 5), ((1,), 1)), (((), 4), ((), 5), ((1,), 0), ((1,), 1))):
            self.lets(lets_cut, ((1,), 0), ((), 0), cut)
            self.lets(lets_cut, ((1,), 0), ((0,), 1), cut)

    def test_shape(self):
        for thing in any_things() + [[], [((1,), 1)], 7, ""]:
            if not isinstance(thing, tuple):
                self.refused(lets_cut, ((1,), 0), ((), 0), thing, "shape", -1)

    def test_point(self):
        for wrong in NO_POINTS + [thing for thing in any_things() if not same(thing, ((), 1))]:
            self.refused(lets_cut, ((1,), 0), ((), 0), (wrong, ((1,), 1)), "point", 0)
            self.refused(lets_cut, ((1,), 0), ((), 0), (((1,), 1), wrong), "point", 1)
            self.refused(lets_cut, ((1,), 0), ((), 0), (((), 0), ((1,), 1), wrong, wrong), "point", 2)

    def test_rising(self):
        self.refused(lets_cut, ((1,), 0), ((), 0), (((1,), 1), ((1,), 1)), "point", 1)
        self.refused(lets_cut, ((1,), 0), ((), 0), (((1,), 0), ((1,), 1), ((), 5)), "point", 2)
        self.refused(lets_cut, ((1,), 0), ((), 0), (((), 5), ((), 4), ((9,), 1)), "point", 1)
        # The first wrong entry is told, be it that it doesn't rise or that it is no point.
        self.refused(lets_cut, ((1,), 0), ((), 0), (((), 5), ((9,), 1), ((), 4)), "point", 1)

    def test_point_ahead_of_other(self):
        self.refused(lets_cut, ((1,), 0), ((), 0), (((), 0), None), "point", 1)

    def test_other(self):
        self.refused(lets_cut, ((1,), 0), ((1,), 1), (((1,), 1),), "other", -1)
        # It is open at entry 0, too, and the one links outside.
        self.refused(lets_cut, ((1,), 0), ((), 4), (((), 4),), "other", -1)
        self.refused(lets_cut, ((), 5), ((), 5), (((), 5),), "other", -1)

    def test_open(self):
        self.refused(lets_cut, ((1,), 0), ((), 0), (((), 4), ((1,), 1)), "open", 0)
        self.refused(lets_cut, ((1,), 0), ((), 0), (((), 4), ((), 5), ((1,), 0)), "open", 2)
        # Of a fork both its links have to be in it, and of an end its join.
        self.refused(lets_cut, ((), 5), ((), 0), (((), 3), ((), 4), ((), 5)), "open", 0)
        self.refused(lets_cut, ((), 5), ((), 0), (((), 3), ((1,), 0), ((1,), 1)), "open", 0)
        self.refused(lets_cut, ((), 5), ((), 0), (((), 5), ((0,), 0), ((0,), 1)), "open", 2)
        self.refused(lets_cut, ((), 5), ((), 0), (((), 1), ((), 3)), "open", 0)

    def test_open_ahead_of_one(self):
        self.refused(lets_cut, ((), 0), ((), 0), (((), 4),), "open", 0)

    def test_one(self):
        self.refused(lets_cut, ((1,), 0), ((), 0), (((), 5),), "one", -1)
        self.refused(lets_cut, ((), 3), ((), 0), (((), 4), ((), 5)), "one", -1)
        self.refused(lets_cut, ((), 3), ((), 0), (((1,), 0), ((1,), 1)), "one", -1)
        self.refused(lets_cut, ((0,), 1), ((), 0), (), "one", -1)


class AllPairs(Case):
    def test_what_is_told_is_let_by(self):
        for drawn in small_diagrams():
            for one, other in itertools.product(points_of(drawn), repeat=2):
                word, paper = chain_or_cut(drawn, one, other)
                self.lets(lets_chain if word == "chain" else lets_cut, one, other, paper, drawn=drawn)

    def test_no_cut_where_there_is_a_chain(self):
        """Of small DIAGRAMS all CUTS that could be: sets of POINTS, rising."""
        drawn = diagram(STORE, (fork("f", TELL), ("join", "f", "a")))
        points = points_of(drawn)
        cuts = [cut for many in range(len(points) + 1) for cut in itertools.combinations(points, many)]
        ahead, links = ahead_in(drawn), links_in(drawn)
        for one, other in itertools.product(points, repeat=2):
            let = [cut for cut in cuts if refusal_of(lets_cut, drawn, one, other, cut) is None]
            right = [cut for cut in cuts if other not in cut
                     and all(far in cut for near, far in links if near == one or near in cut)]
            self.assertEqual(let, right)
            self.assertEqual(not let, (one, other) in ahead)

    def test_no_chain_where_there_is_a_cut(self):
        drawn = diagram(STORE, (fork("f", TELL), ("join", "f", "a")))
        points, links = points_of(drawn), links_in(drawn)
        chains = [chain for many in (2, 3, 4) for chain in itertools.product(points, repeat=many)]
        for chain in chains:
            linked = all(pair in links for pair in zip(chain, chain[1:]))
            self.assertEqual(refusal_of(lets_chain, drawn, chain[0], chain[-1], chain) is None, linked)


class ByNames(Case):
    def test_by_names(self):
        chain = (((), 0), ((), 1))
        self.assertIs(lets_chain(thing=chain, other=((), 1), one=((), 0), drawn=DRAWN), True)
        self.assertIs(lets_cut(thing=(), other=((), 1), drawn=DRAWN, one=((), 5)), True)
        with self.assertRaises(NoPaper):
            lets_chain(thing=chain, one=((), 1), other=((), 0), drawn=DRAWN)
