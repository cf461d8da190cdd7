"""[4], [14]: the five words that write, with each KIND."""

import unittest

from forkjoins.changes import changed
from forkjoins.errors import NoStep
from tests.things import GREAT, KINDS, OWN, OWN_LESS, is_plain_told

WORDS = ("write", "add", "put", "take", "row")
GOES = {"plain": ("write",), "sum": ("write", "add"), "most": ("write",), "set": ("put", "take"),
        "list": ("row",), OWN: ("write",), OWN_LESS: ("write",)}


def has_of(kind):
    return (1, 3) if kind in ("set", "list") else 3


class Goes(unittest.TestCase):
    def test_each_word_with_each_kind(self):
        for kind in KINDS:
            for word in WORDS:
                if word in GOES[kind]:
                    changed(kind, has_of(kind), word=word, number=4)
                    continue
                with self.assertRaises(NoStep) as caught:
                    changed(kind, has_of(kind), word=word, number=4)
                self.assertIs(caught.exception.word, word)

    def test_other_texts(self):
        for kind in KINDS:
            for word in ("", "read", "has", "let", "tell", "if", "fork", "join", "fail", "Write", "add ", "rows", "x" * 99):
                with self.assertRaises(NoStep) as caught:
                    changed(kind, has_of(kind), word=word, number=4)
                self.assertIs(caught.exception.word, word)


class Comes(unittest.TestCase):
    def test_write(self):
        for kind in ("plain", "sum", "most", OWN):
            for number in (0, -5, 3, GREAT):
                self.assertEqual(changed(kind, 3, word="write", number=number), number)

    def test_write_is_no_merge(self):
        self.assertEqual(changed("most", 9, word="write", number=2), 2)
        self.assertEqual(changed(OWN_LESS, 9, word="write", number=2), 2)

    def test_add(self):
        self.assertEqual(changed("sum", 3, word="add", number=4), 7)
        self.assertEqual(changed("sum", 3, word="add", number=-4), -1)
        self.assertEqual(changed("sum", -GREAT, word="add", number=GREAT), 0)

    def test_put(self):
        self.assertEqual(changed("set", (), word="put", number=4), (4,))
        self.assertEqual(changed("set", (1, 5), word="put", number=3), (1, 3, 5))
        self.assertEqual(changed("set", (1, 5), word="put", number=-3), (-3, 1, 5))
        self.assertEqual(changed("set", (1, 5), word="put", number=9), (1, 5, 9))
        self.assertEqual(changed("set", (1, 5), word="put", number=5), (1, 5))

    def test_take(self):
        self.assertEqual(changed("set", (), word="take", number=4), ())
        self.assertEqual(changed("set", (4,), word="take", number=4), ())
        self.assertEqual(changed("set", (1, 3, 5), word="take", number=3), (1, 5))
        self.assertEqual(changed("set", (1, 3, 5), word="take", number=2), (1, 3, 5))

    def test_row(self):
        self.assertEqual(changed("list", (), word="row", number=4), (4,))
        self.assertEqual(changed("list", (7, 4), word="row", number=4), (7, 4, 4))
        self.assertEqual(changed("list", (7, 4), word="row", number=-9), (7, 4, -9))

    def test_just_tuples_and_numbers_and_by_names(self):
        for kind in KINDS:
            for word in GOES[kind]:
                told = changed(number=2, word=word, has=has_of(kind), kind=kind)
                self.assertTrue(is_plain_told(told))
                self.assertEqual(told, changed(kind, has_of(kind), word=word, number=2))
        with self.assertRaises(TypeError):
            changed("sum", 3, "add", 4)
