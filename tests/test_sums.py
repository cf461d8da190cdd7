"""[3], [10], [11]: SUMS, their WORTH and their SLOTS."""

import random
import unittest

from forkjoins.sums import is_sum, slots_of, worth
from tests.things import GREAT, SUM_FORMS, any_things, deep_sum, is_plain_told

A, B = ("slot", "a"), ("slot", "b")


def num(number):
    return ("num", number)


def drawn_sum(chance, deep):
    """A SUM with what it is worth where a is 5, b is -3, and all else 0."""
    word = chance.choice(("num", "slot", "plus", "minus", "less")) if deep else "num"
    if word == "num":
        number = chance.randint(-4, 4)
        return ("num", number), number
    if word == "slot":
        slot = chance.choice("abc")
        return ("slot", slot), {"a": 5, "b": -3, "c": 0}[slot]
    (one, first), (other, second) = drawn_sum(chance, deep - 1), drawn_sum(chance, deep - 1)
    whole = {"plus": first + second, "minus": first - second, "less": int(first < second)}
    return (word, one, other), whole[word]


class IsSum(unittest.TestCase):
    def test_each_form(self):
        for form in SUM_FORMS:
            self.assertIs(is_sum(form), True)
        for number in (0, -1, GREAT, -GREAT):
            self.assertIs(is_sum(num(number)), True)

    def test_within_one_another(self):
        for word in ("plus", "minus", "less"):
            for one in SUM_FORMS:
                for other in SUM_FORMS:
                    self.assertIs(is_sum((word, one, other)), True)

    def test_lists_for_tuples(self):
        for form in SUM_FORMS:
            self.assertIs(is_sum(list(form)), False)
            self.assertIs(is_sum(("plus", list(form), num(1))), False)
            self.assertIs(is_sum(("plus", num(1), list(form))), False)

    def test_parts_too_many_and_too_few(self):
        for form in SUM_FORMS:
            for wrong in (form + (num(1),), form + (1,), form[:-1], form[:1], form[1:]):
                self.assertIs(is_sum(wrong), False)
                self.assertIs(is_sum(("less", num(1), wrong)), False)

    def test_words_that_are_none(self):
        for word in ("", "Num", "sum", "times", "plus ", None, 1, ("plus",), ["plus"]):
            self.assertIs(is_sum((word, num(1), num(1))), False)
            self.assertIs(is_sum((word, 1)), False)
            self.assertIs(is_sum((word, "a")), False)

    def test_wrong_parts(self):
        for wrong in (("num", True), ("num", False), ("num", "1"), ("num", None), ("num", (1,)),
                      ("num", num(1)), ("slot", ""), ("slot", "A"), ("slot", "abcdefghi"),
                      ("slot", "a\n"), ("slot", 1), ("slot", None), ("slot", A), ("plus", 1, 2),
                      ("plus", "a", "b"), ("num", num(1), num(1)), ("slot", A, B)):
            self.assertIs(is_sum(wrong), False)
            self.assertIs(is_sum(("minus", wrong, num(1))), False)
            self.assertIs(is_sum(("minus", num(1), ("less", num(0), wrong))), False)

    def test_deep(self):
        self.assertIs(is_sum(deep_sum(num(1))), True)
        self.assertIs(is_sum(deep_sum(("num", True))), False)
        self.assertIs(is_sum(deep_sum(["num", 1])), False)
        self.assertIs(is_sum(deep_sum(("slot", ""))), False)

    def test_other_things(self):
        for thing in any_things() + [0, 1, "num", "a", (), [], ()]:
            self.assertIs(is_sum(thing), False)


class Worth(unittest.TestCase):
    def test_each_form(self):
        rows = (("a", 5), ("b", -3))
        for amount, number in (
                (num(7), 7), (num(-7), -7), (A, 5), (B, -3), (("plus", A, B), 2),
                (("minus", A, B), 8), (("minus", B, A), -8), (("less", A, B), 0),
                (("less", B, A), 1), (("less", A, A), 0), (("less", num(5), A), 0),
                (("less", num(4), A), 1)):
            self.assertEqual(worth(amount, slots=rows), number)
            self.assertIs(type(worth(amount, slots=rows)), int)

    def test_slots_left_out_and_without_a_row(self):
        self.assertEqual(worth(A), 0)
        self.assertEqual(worth(A, slots=()), 0)
        self.assertEqual(worth(A, slots=(("b", 4),)), 0)
        self.assertEqual(worth(("minus", A, num(2))), -2)
        self.assertEqual(worth(("less", A, num(1)), slots=(("aa", 4),)), 1)

    def test_great_and_deep(self):
        self.assertEqual(worth(("plus", num(GREAT), A), slots=(("a", GREAT),)), 2 * GREAT)
        self.assertEqual(worth(("minus", num(-GREAT), num(GREAT))), -2 * GREAT)
        self.assertEqual(worth(deep_sum(A), slots=(("a", 3),)), 42)

    def test_drawn(self):
        chance = random.Random(1)
        for _ in range(300):
            amount, number = drawn_sum(chance, 4)
            self.assertEqual(worth(amount, slots=(("a", 5), ("b", -3))), number)

    def test_by_names(self):
        self.assertEqual(worth(slots=(("a", 2),), amount=A), 2)
        self.assertEqual(worth(amount=num(3)), 3)
        with self.assertRaises(TypeError):
            worth(A, (("a", 2),))


class SlotsOf(unittest.TestCase):
    def test_rising_each_once(self):
        amount = ("plus", ("less", B, A), ("minus", ("slot", "ab"), ("plus", B, num(4))))
        self.assertEqual(slots_of(amount), ("a", "ab", "b"))
        self.assertEqual(slots_of(("plus", A, A)), ("a",))
        self.assertTrue(is_plain_told(slots_of(amount)))

    def test_none_and_deep(self):
        self.assertEqual(slots_of(num(4)), ())
        self.assertEqual(slots_of(("less", num(4), num(2))), ())
        self.assertEqual(slots_of(deep_sum(A)), ("a",))

    def test_by_name(self):
        self.assertEqual(slots_of(amount=A), ("a",))
