"""[36]: what is SEEN at SEGMENTS."""

import copy
import random
import unittest

from forkjoins.segments import seen, seen_from
from tests.things import is_plain_told, same

ALONE = ((0, None, ((0, 5), (1, (1, 2)), (2, ()))),)
# 3 is the top; 4 and 9 below it; 11 and 20 below 9; 21 below 11.
TREE = (
    (3, None, ((0, 10), (1, 11), (2, 12), (3, 13))),
    (4, 3, ((1, 41),)),
    (9, 3, ((0, 90), (2, 92))),
    (11, 9, ()),
    (20, 9, ((0, 200), (1, 201), (2, 202), (3, 203))),
    (21, 11, ((2, 212),)),
)
FROM = {3: (3, 3, 3, 3), 4: (3, 4, 3, 3), 9: (9, 3, 9, 3), 11: (9, 3, 9, 3), 20: (20, 20, 20, 20), 21: (9, 3, 21, 3)}
SEEN = {3: (10, 11, 12, 13), 4: (10, 41, 12, 13), 9: (90, 11, 92, 13), 11: (90, 11, 92, 13), 20: (200, 201, 202, 203),
        21: (90, 11, 212, 13)}


class Seen(unittest.TestCase):
    def check(self, segments, number, places, values):
        kept = copy.deepcopy(segments)
        told = seen(segments, number)
        self.assertTrue(is_plain_told(told))
        self.assertTrue(same(told, values), (told, values))
        for cell, place in enumerate(places):
            self.assertTrue(same(seen_from(segments, number, cell), place))
        self.assertTrue(same(segments, kept))

    def test_one_alone(self):
        self.check(ALONE, 0, (0, 0, 0), (5, (1, 2), ()))
        self.check(((7, None, ((0, -3),)),), 7, (7,), (-3,))

    def test_one_below_another(self):
        segments = ((0, None, ((0, 1), (1, 2))), (1, 0, ((1, 3),)))
        self.check(segments, 0, (0, 0), (1, 2))
        self.check(segments, 1, (0, 1), (1, 3))

    def test_several_with_gaps(self):
        for number in FROM:
            self.check(TREE, number, FROM[number], SEEN[number])

    def test_a_row_of_what_is_above_too(self):
        """SEEN is the nearest one, also where it has what the one above has, 0 or ()."""
        segments = ((0, None, ((0, 1), (1, (4,)), (2, 8))), (2, 0, ((0, 0), (1, ()), (2, 8))), (5, 2, ()))
        self.check(segments, 5, (2, 2, 2), (0, (), 8))

    def test_drawn(self):
        chance = random.Random(36)
        for _ in range(100):
            cells, numbers = chance.randint(1, 5), sorted(chance.sample(range(30), chance.randint(1, 8)))
            above = {number: chance.choice(numbers[:at]) if at else None for at, number in enumerate(numbers)}
            rows = {number: {cell: 100 * number + cell for cell in range(cells) if number == numbers[0] or chance.random() < 0.4}
                    for number in numbers}
            segments = tuple((number, above[number], tuple(sorted(rows[number].items()))) for number in numbers)
            for number in numbers:
                places = []
                for cell in range(cells):
                    at = number
                    while cell not in rows[at]:
                        at = above[at]
                    places.append(at)
                self.check(segments, number, places, tuple(100 * place + cell for cell, place in enumerate(places)))

    def test_by_names(self):
        self.assertEqual(seen_from(cell=2, segments=TREE, number=11), 9)
        self.assertEqual(seen(number=11, segments=TREE), SEEN[11])
