"""[2], [10]: NUMBERS and WORDS."""

import unittest

from forkjoins.kinds import is_number, is_word
from tests.things import GREAT, any_things


class Numbers(unittest.TestCase):
    def test_numbers(self):
        for thing in (0, 1, -1, 7, GREAT, -GREAT):
            self.assertIs(is_number(thing), True)

    def test_truths_are_none(self):
        self.assertIs(is_number(True), False)
        self.assertIs(is_number(False), False)

    def test_other_things(self):
        for thing in any_things() + ["1", "a", (), (1,), [1]]:
            self.assertIs(is_number(thing), False)


class Words(unittest.TestCase):
    def test_words(self):
        for thing in ("a", "z", "mine", "abcdefgh", "zzzzzzzz", "num"):
            self.assertIs(is_word(thing), True)

    def test_each_small_letter(self):
        for letter in "abcdefghijklmnopqrstuvwxyz":
            self.assertIs(is_word(letter), True)
            self.assertIs(is_word(letter.upper()), False)

    def test_near_words(self):
        for thing in ("", "abcdefghi", "A", "aB", "a b", " a", "a ", "a1", "1", "a\n", "\n", "a-",
                      "`", "{", "a_"):
            self.assertIs(is_word(thing), False)

    def test_other_things(self):
        for thing in any_things() + [0, 1, ("a",), ["a"], ("a", "b")]:
            self.assertIs(is_word(thing), False)


class ByName(unittest.TestCase):
    def test_by_name(self):
        self.assertIs(is_number(thing=4), True)
        self.assertIs(is_word(thing="a"), True)
