"""[69]: STORES, PATHS and WAYS read from texts."""

import random
import re
import unittest

from forkjoins.storereader import read_path, read_store
from forkjoins.storetexts import shown_path, shown_store
from tests.drawing import drawn_store
from tests.things import any_things, is_plain_told, refusal_of, same

MINE, BASE, THEIRS = ("slot", "mine"), ("slot", "base"), ("slot", "theirs")
OWN = ("own", ("plus", MINE, ("minus", THEIRS, BASE)))
TEXT = "plain:5 set:1,2 list: own(+,mine,-,theirs,base):7 sum:-10 most:0 list:4,-4,0"
NUMBER = r"(?:0|-?[1-9][0-9]{0,11})"
SIGNS = [chr(sign) for sign in range(32, 127) if chr(sign) != "%"]


def sum_ends(words, around=0):
    """How many of the words a SUM takes; 0 where none is written."""
    if not words:
        return 0
    if words[0] in ("+", "-", "<"):
        first = sum_ends(words[1:], around + 1) if around < 3 else 0
        second = sum_ends(words[1 + first:], around + 1) if first else 0
        return 1 + first + second if second else 0
    return int(re.fullmatch(NUMBER + "|[a-z]{1,8}", words[0]) is not None)


def writes_cell(word):
    """A second telling, by patterns."""
    found = re.fullmatch(r"(plain|sum|most|own\(([^ ():]*)\)):(" + NUMBER + ")", word)
    if found:
        words = found[2].split(",") if found[2] is not None else None
        return words is None or sum_ends(words) == len(words)
    found = re.fullmatch(r"(set|list):((?:" + NUMBER + "(?:," + NUMBER + ")*)?)", word)
    if not found:
        return False
    numbers = [int(text) for text in found[2].split(",")] if found[2] else []
    return found[1] == "list" or all(low < high for low, high in zip(numbers, numbers[1:]))


def wanted_of(text):
    words = text.split(" ")
    wrong = [at for at, word in enumerate(words) if not writes_cell(word)]
    return ("NoText", 0, wrong[0]) if wrong else None


class Stores(unittest.TestCase):
    def read(self, text, *wanted):
        told = read_store(text)
        self.assertTrue(is_plain_told(told))
        self.assertTrue(same(told, wanted), told)
        self.assertEqual(shown_store(told), text)

    def refused(self, text, word):
        self.assertTrue(same(refusal_of(read_store, text), ("NoText", 0, word)), (text, refusal_of(read_store, text)))

    def test_as_the_document_has_it(self):
        self.read("plain:5 set:1,2 list: own(+,mine,-,theirs,base):7", ("plain", 5), ("set", (1, 2)), ("list", ()), (OWN, 7))

    def test_each_kind(self):
        self.read("plain:0 sum:-12 most:3 set:-1,0,10 list:3,-2,3 set: own(-3):1",
                  ("plain", 0), ("sum", -12), ("most", 3), ("set", (-1, 0, 10)), ("list", (3, -2, 3)), ("set", ()), (("own", ("num", -3)), 1))

    def test_own(self):
        self.read("own(a):0", (("own", ("slot", "a")), 0))
        self.read("own(<,mine,base):-1", (("own", ("less", MINE, BASE)), -1))
        self.read("own(own):5", (("own", ("slot", "own")), 5))
        self.read("own(+,-,1,-2,plain):5", (("own", ("plus", ("minus", ("num", 1), ("num", -2)), ("slot", "plain"))), 5))

    def test_sum_within_bounds(self):
        self.read("own(+,+,+,1,2,3,4):0", (("own", ("plus", ("plus", ("plus", ("num", 1), ("num", 2)), ("num", 3)), ("num", 4))), 0))
        self.read("own(+,1,+,2,+,3,4):0", (("own", ("plus", ("num", 1), ("plus", ("num", 2), ("plus", ("num", 3), ("num", 4))))), 0))
        self.refused("own(+,+,+,+,1,2,3,4,5):0", 0)
        self.refused("plain:1 own(+,1,+,2,+,3,<,4,5):0 x", 1)

    def test_twelve_figures(self):
        self.read("plain:999999999999 set:-999999999999,0 list:100000000000 own(999999999999):-100000000000",
                  ("plain", 999999999999), ("set", (-999999999999, 0)), ("list", (100000000000,)),
                  (("own", ("num", 999999999999)), -100000000000))
        for text in ("plain:1000000000000", "plain:-1000000000000", "set:1000000000000", "list:1,1000000000000", "own(1000000000000):1",
                     "own(mine):1000000000000", "sum:" + "9" * 200):
            self.refused(text, 0)

    def test_void_text(self):
        self.refused("", 0)

    def test_blanks(self):
        self.refused(" ", 0)
        self.refused(" plain:0", 0)
        self.refused("plain:0 ", 1)
        self.refused("plain:0  plain:0", 1)
        self.refused("plain: 0", 0)
        self.refused("plain :0", 0)
        self.refused("list:1, 2", 0)
        self.refused("list: 2", 1)
        self.refused("own(+, mine,base):0", 0)

    def test_numbers(self):
        for word in ("00", "01", "-0", "-01", "+1", "", "-", "1.", "0x1", "a", "1-", "--1", "1,2", ",", "1,", ",1", "1_0"):
            for kind in ("plain", "sum", "most", "own(mine)"):
                self.refused(f"list: {kind}:{word}", 1)
        for word in ("00", "-0", "01", "a", "-", ",", "1,", ",1", "1,,2", "1,01", "1,-0", "1;2", "+1"):
            self.refused(f"list:{word}", 0)
            self.refused(f"set:{word}", 0)

    def test_sets_that_dont_rise(self):
        for word in ("2,1", "1,1", "1,3,2", "0,-1", "1,2,2", "10,9"):
            self.refused(f"plain:0 set:{word}", 1)
            self.assertEqual(refusal_of(read_store, f"plain:0 list:{word}"), None)

    def test_kinds(self):
        for word in ("", "Plain", "plains", "plai", "own", "own()", "own(", "own)", "own(mine", "own mine", "own(mine))", "own((mine))", "own(mine,)",
                     "own(,mine)", "own(+,mine)", "own(+,1,2,3)", "own(1,2)", "own(+)", "own(A)", "own(abcdefghi)", "own(*,1,2)", "own(plus,1,2)",
                     "xown(mine)", "own(mine)x", "Own(mine)", "own[mine]", "own(01)", "own(-0)", "own(+,,1)", "num", "0", "own( mine)"):
            word = word.replace(" ", "_")
            self.refused(f"{word}:1", 0)

    def test_colons(self):
        for word in ("plain", "plain0", "plain::0", ":0", ":", "plain:0:", "plain:0:0", "plain;0", "list", "set", "list::", "own(mine)", "own(mine)7"):
            self.refused(f"sum:0 {word}", 1)

    def test_first_that_writes_no_cell(self):
        self.refused("plain:0 x y", 1)
        self.refused("x plain:0 y", 0)
        self.refused("plain:0 sum:1 set:1 set:2,1 x", 3)

    def test_spoilt_at_each_place(self):
        for text in (TEXT, "own(+,<,a,-3,12):-40 set:-3,-2"):
            for at in range(len(text) + 1):
                for sign in SIGNS:
                    for spoilt in (text[:at] + sign + text[at:], text[:at] + sign + text[at + 1:], text[:at] + text[at + 1:]):
                        self.assertEqual(refusal_of(read_store, spoilt), wanted_of(spoilt), spoilt)
                        if wanted_of(spoilt) is None:
                            self.assertEqual(shown_store(read_store(spoilt)), spoilt)

    def test_drawn_and_spoilt(self):
        chance = random.Random(69)
        right = 0
        for _ in range(300):
            text = shown_store(drawn_store(chance, chance.randint(1, 6)))
            for _ in range(12):
                at, far = sorted(chance.randrange(len(text) + 1) for _ in range(2))
                spoilt = chance.choice((text[:at] + text[far:], text[:at] + text[at:far] * 2 + text[far:],
                                        text[:at] + chance.choice(("0", "1", "-", ",", ":", " ", "(", ")", "a")) + text[at:]))
                self.assertEqual(refusal_of(read_store, spoilt), wanted_of(spoilt), spoilt)
                right += wanted_of(spoilt) is None
        self.assertGreater(right, 100)

    def test_by_name(self):
        self.assertEqual(read_store(text="plain:0"), (("plain", 0),))
        self.assertEqual(read_path(text="."), ())


class Paths(unittest.TestCase):
    def refused(self, text):
        self.assertTrue(same(refusal_of(read_path, text), ("NoText", 0, 0)), text)

    def test_ordinary(self):
        for text, path in ((".", ()), ("0", (0,)), ("1.0.12", (1, 0, 12)), ("999999999999.1", (999999999999, 1)), ("0.0.0", (0, 0, 0))):
            told = read_path(text)
            self.assertTrue(same(told, path))
            self.assertEqual(shown_path(told), text)

    def test_no_path(self):
        for text in ("", "..", "0.", ".0", "0..1", "00", "01", "0.01", "-1", "0.-1", "-0", "+1", "1000000000000", "0.1000000000000", " ", " 0", "0 ",
                     "0 1", "0. 1", ". ", " .", "a", "0.a", "0,1", "(0,)", "0:1", "...", "1_0"):
            self.refused(text)
        for thing in any_things():
            if isinstance(thing, str):
                self.refused(thing)
                self.assertEqual(refusal_of(read_store, thing), ("NoText", 0, 0))

    def test_spoilt_at_each_place(self):
        pattern = re.compile(r"\.|(?:0|[1-9][0-9]{0,11})(?:\.(?:0|[1-9][0-9]{0,11}))*")
        for text in (".", "0", "10.0.3", "123456789012.0"):
            for at in range(len(text) + 1):
                for sign in SIGNS:
                    for spoilt in (text[:at] + sign + text[at:], text[:at] + sign + text[at + 1:], text[:at] + text[at + 1:]):
                        if pattern.fullmatch(spoilt):
                            self.assertEqual(shown_path(read_path(spoilt)), spoilt)
                        else:
                            self.refused(spoilt)
