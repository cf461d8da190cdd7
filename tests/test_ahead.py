"""[29], [30]: which POINTS are AHEAD, by CHAINS and CUTS."""

import copy
import unittest

from forkjoins.ahead import chain_or_cut, is_ahead
from forkjoins.diagram import diagram
from forkjoins.errors import NoRevision
from tests.diagrams import STORE, TELL, ahead_in, fork, links_in, points_of, small_diagrams
from tests.things import any_things, is_plain_told, same


class ByHand(unittest.TestCase):
    DRAWN = diagram(STORE, (fork("f", TELL), TELL, ("join", "f", "a"), fork("g", TELL), TELL))

    def test_ahead(self):
        for one, other in ((((), 0), ((), 1)), (((), 0), ((), 5)), (((), 0), ((0,), 0)), (((), 0), ((0,), 1)),
                           (((0,), 0), ((0,), 1)), (((0,), 1), ((), 2)), (((0,), 0), ((), 5)), (((0,), 0), ((1,), 1)),
                           (((), 1), ((1,), 0)), (((), 3), ((1,), 0))):
            self.assertIs(is_ahead(self.DRAWN, one, other), True, (one, other))
            self.assertIs(is_ahead(self.DRAWN, other, one), False, (one, other))

    def test_beside(self):
        for one, other in ((((), 1), ((0,), 0)), (((), 1), ((0,), 1)), (((), 4), ((1,), 0)), (((), 5), ((1,), 1))):
            self.assertIs(is_ahead(self.DRAWN, one, other), False)
            self.assertIs(is_ahead(self.DRAWN, other, one), False)

    def test_chain(self):
        told = chain_or_cut(self.DRAWN, ((0,), 0), ((), 3))
        self.assertEqual(told, ("chain", (((0,), 0), ((0,), 1), ((), 2), ((), 3))))
        self.assertEqual(chain_or_cut(self.DRAWN, ((), 0), ((0,), 0)), ("chain", (((), 0), ((0,), 0))))

    def test_end_has_the_empty_cut(self):
        self.assertEqual(chain_or_cut(self.DRAWN, ((), 5), ((), 5)), ("cut", ()))
        self.assertEqual(chain_or_cut(self.DRAWN, ((1,), 1), ((), 0)), ("cut", ()))


class AllPairs(unittest.TestCase):
    def test_is_ahead(self):
        for drawn in small_diagrams():
            wanted = ahead_in(drawn)
            for one in points_of(drawn):
                self.assertIs(is_ahead(drawn, one, one), False)
                for other in points_of(drawn):
                    self.assertIs(is_ahead(drawn, one, other), (one, other) in wanted)

    def test_chain_or_cut(self):
        for drawn in small_diagrams():
            links, ahead = links_in(drawn), ahead_in(drawn)
            for one in points_of(drawn):
                for other in points_of(drawn):
                    told = chain_or_cut(drawn, one, other)
                    self.assertTrue(is_plain_told(told))
                    self.assertEqual(told[0], "chain" if (one, other) in ahead else "cut")
                    self.assertEqual(len(told), 2)
                    check = self.check_chain if told[0] == "chain" else self.check_cut
                    check(drawn, links, one, other, told[1])

    def check_chain(self, drawn, links, one, other, chain):
        self.assertGreaterEqual(len(chain), 2)
        self.assertEqual((chain[0], chain[-1]), (one, other))
        for pair in zip(chain, chain[1:]):
            self.assertIn(pair, links)

    def check_cut(self, drawn, links, one, other, cut):
        self.assertEqual(list(cut), sorted(set(cut)))
        self.assertLessEqual(set(cut), set(points_of(drawn)))
        self.assertNotIn(other, cut)
        for begin, end in links:
            if begin == one or begin in cut:
                self.assertIn(end, cut)


class Refused(unittest.TestCase):
    DRAWN = diagram(STORE, (fork("f", TELL), fork("g"), TELL))
    WRONG = [thing for thing in any_things() if not same(thing, ((), 1))] + [
        (), ((),), ((), 4), ((), -1), ((0,), 2), ((1,), 1), ((2,), 0), ((0, 0), 0), ((), 0, 0), [(), 0], ([], 0), ([0], 0),
        ((), True), ((), False), ((True,), 0), ((False,), 0), ((), None), ((), "0"), (None, 0), (0, 0), ("", 0), ((), (0,)),
        0, ((), [0]), (((),), 0), (((0,),), 0)]

    def refused(self, function, one, other, thing):
        with self.assertRaises(NoRevision) as caught:
            function(self.DRAWN, one, other)
        self.assertIs(caught.exception.path, thing)

    def test_the_very_thing_of_both(self):
        for wrong in self.WRONG:
            kept = copy.deepcopy(wrong)
            for function in (is_ahead, chain_or_cut):
                self.refused(function, wrong, ((), 0), wrong)
                self.refused(function, ((), 0), wrong, wrong)
                self.refused(function, ((), 3), wrong, wrong)
            self.assertTrue(same(wrong, kept))

    def test_the_one_ahead_of_the_other(self):
        one, other = [1], [2]
        for function in (is_ahead, chain_or_cut):
            self.refused(function, one, other, one)
            self.refused(function, other, one, other)

    def test_last_points_are_points(self):
        for point in (((), 3), ((0,), 1), ((1,), 0)):
            self.assertIs(is_ahead(self.DRAWN, ((), 0), point), True)

    def test_by_names(self):
        self.assertIs(is_ahead(other=((), 1), one=((), 0), drawn=self.DRAWN), True)
        self.assertEqual(chain_or_cut(other=((), 1), one=((), 0), drawn=self.DRAWN), ("chain", (((), 0), ((), 1))))
