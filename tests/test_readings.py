"""[33], [34]: PROGRAMS read from texts."""

import random
import unittest

from forkjoins.errors import NoText
from forkjoins.plain import plain_run
from forkjoins.programs import fits, is_program
from forkjoins.readings import read_program
from forkjoins.texts import shown_program
from tests.drawing import drawn_program, drawn_store
from tests.test_texts import DOCUMENTS, EACH, SUMS
from tests.things import is_plain_told, refusal_of, same

ALPHABET = "abcdefghijklmnopqrstuvwxyz"
# Words that can stand nowhere.
NOWHERE = ("", "00", "01", "-0", "-01", "+1", "--1", "1-", "1a", "1x", "a1", "A", "aB", "abcdefghi", "{}", "1000000000000",
           "-1000000000000", "a\n", "\n", "1\n", "{\n", "a,b", "(", ")", "[", "*", ">", "<=", "=", ".", "_", "a_b", "0x1",
           "1_0", "~", "\t", "a\tb", "1.5", "!", "'a'", "-a", "+a")


class Case(unittest.TestCase):
    def refused(self, text, word, **line):
        told = refusal_of(read_program, text, **line)
        self.assertTrue(same(told, ("NoText", line.get("line", 0), word)), (text, told, word))

    def reads(self, text, program=None):
        told = read_program(text)
        self.assertTrue(is_plain_told(told))
        self.assertTrue(is_program(told), text)
        self.assertEqual(shown_program(told), text)
        if program is not None:
            self.assertTrue(same(told, program))


class Read(Case):
    def test_void(self):
        self.reads("", ())

    def test_the_documents_own(self):
        self.reads("read a 0 fork f { add 0 a } 1 g join f b", DOCUMENTS)

    def test_each_step(self):
        for step, text in EACH:
            self.reads(text, (step,))
        self.reads(" ".join(text for _, text in EACH), tuple(step for step, _ in EACH))

    def test_sums(self):
        for amount, text in SUMS:
            self.reads("tell " + text, (("tell", amount),))
            self.reads("write 0 " + text + " fail", (("write", 0, amount), ("fail",)))

    def test_words_of_steps_as_slots_and_names(self):
        self.reads("read read 0 let tell + fork if fork fail { join fork join } 1 join tell fail",
                   (("read", "read", 0), ("let", "tell", ("plus", ("slot", "fork"), ("slot", "if"))),
                    ("fork", "fail", (("join", "fork", "join"),), ("join",)), ("tell", ("slot", "fail"))))

    def test_cells(self):
        self.reads("read a 0 read a 10 read a 999999999999",
                   (("read", "a", 0), ("read", "a", 10), ("read", "a", 999999999999)))

    def test_words_of_eight_letters(self):
        self.reads("read abcdefgh 0 fork stuvwxyz { } 1 zzzzzzzz tell abcdefgh",
                   (("read", "abcdefgh", 0), ("fork", "stuvwxyz", (), ("zzzzzzzz",)), ("tell", ("slot", "abcdefgh"))))

    def test_what_is_written_is_read_as_the_same(self):
        chance = random.Random(33)
        many = 0
        for _ in range(500):
            store = drawn_store(chance)
            program = drawn_program(chance, store, 4)
            self.assertTrue(fits(program, most=10 ** 6, forks=10 ** 6))
            self.reads(shown_program(program), program)
            self.assertEqual(plain_run(store, read_program(shown_program(program))), plain_run(store, program))
            many += len(program)
        self.assertGreater(many, 1000)


class Names(Case):
    def test_how_many(self):
        for many in range(13):
            names = tuple(ALPHABET[:many])
            self.reads(" ".join(("fork f { }", str(many)) + names), (("fork", "f", (), names),))
        for many in ("13", "14", "26", "100", "-1", "-12", "00", "012", "-", "a", "", "{", "+", "1000000000000"):
            self.refused("fork f { } " + " ".join((many,) + tuple(ALPHABET)), 4)

    def test_rising(self):
        self.reads("fork f { } 3 a ab b")
        self.refused("fork f { } 2 b a", 6)
        self.refused("fork f { } 2 a a", 6)
        self.refused("fork f { } 3 a ab aa", 7)
        self.refused("fork f { } 3 a c b", 7)
        self.refused("fork f { } 4 a c c b", 7)
        # The name of the fork itself is apart.
        self.reads("fork f { } 2 a f fork z { } 1 a")

    def test_too_few_and_too_many(self):
        self.refused("fork f { } 2 a", 6)
        self.refused("fork f { } 2", 5)
        self.refused("fork f { } 1", 5)
        self.refused("fork f { } 0 a", 5)
        self.refused("fork f { } 1 a b", 6)
        self.refused("fork f { } 2 a 3", 6)
        self.refused("if 1 { fork f { } 2 a }", 9)
        # A word that could be a step's is a name, where one is awaited.
        self.reads("fork f { } 2 a fail", (("fork", "f", (), ("a", "fail")),))


class Depths(Case):
    def test_braces(self):
        for opens, closes, word in (("fork f {", "} 0", 14), ("if 1 {", "} { }", 14), ("if 1 { } {", "}", 22)):
            self.reads(" ".join([opens] * 4 + ["fail"] + [closes] * 4))
            self.refused(" ".join([opens] * 5 + ["fail"] + [closes] * 5), word)
            self.refused(" ".join([opens] * 9), word)

    def test_beside_one_another_is_no_deeper(self):
        deep = "if 1 { if 1 { if 1 { if 1 { } { } } { } } { } } { }"
        self.reads(" ".join([deep] * 3))
        self.reads("fork f { } 0 " * 6 + deep)

    def test_sums(self):
        for sign in "+-<":
            self.reads(f"tell {sign} + - 1 2 3 4")
            self.reads(f"tell + 1 - 2 {sign} 3 4")
            self.reads(f"tell + 1 - {sign} 3 4 {sign} 3 4")
            self.refused(f"tell + + + {sign} 1 2 3 4 5", 4)
            self.refused(f"tell + 1 - 2 < 3 {sign} 4 5", 7)
        self.reads("tell + + + 1 2 + 3 4 + + 5 6 + 7 8")
        self.reads("if + + + 1 2 3 4 { tell + + + 1 2 3 4 } { }")
        self.refused("has a 0 + + + + 1 2 3 4 5", 6)

    def test_a_minus_alone_is_a_sign(self):
        self.reads("tell - 1 -1", (("tell", ("minus", ("num", 1), ("num", -1))),))
        self.refused("tell -", 2)
        self.refused("tell - 1", 3)
        self.refused("read a -", 2)
        self.refused("-", 0)


class Refused(Case):
    # Texts with a @ at one place of each kind, and what can stand there.
    PLACES = (
        ("@", "step"), ("fail @", "step"), ("tell 1 @ fail", "step"), ("if 1 { @", "inner"), ("if 1 { fail @ } { }", "inner"),
        ("if 1 @", "brace"), ("if 1 { } @", "brace"), ("fork f @", "brace"), ("fork f { } @", "many"),
        ("fork f { } 1 @", "word"), ("fork f { } 2 a @", "word"), ("fork @", "word"), ("join @ a", "word"), ("join f @", "word"),
        ("read @ 0", "word"), ("read a @", "cell"), ("has @ 0 1", "word"), ("has a @ 1", "cell"), ("has a 0 @", "sum"),
        ("write @ 1", "cell"), ("write 0 @", "sum"), ("add @ 1", "cell"), ("add 0 @", "sum"), ("put @ 1", "cell"),
        ("put 0 @", "sum"), ("take @ 1", "cell"), ("take 0 @", "sum"), ("row @ 1", "cell"), ("row 0 @", "sum"),
        ("let @ 1", "word"), ("let a @", "sum"), ("tell @", "sum"), ("tell + @ 1", "sum"), ("tell + 1 @", "sum"),
        ("tell - + 1 @ 1", "sum"), ("if @ { } { }", "sum"),
    )
    CAN = {
        "step": ("fail", "read", "fork"), "inner": ("fail", "read", "fork", "}"), "brace": ("{",), "many": ("0", "1", "12"),
        "word": ("q", "zzzzzzzz", "read"), "cell": ("0", "1", "999999999999"), "sum": ("0", "-1", "a", "read", "+", "-", "<"),
    }
    SOME = ("fail", "read", "fork", "}", "{", "0", "1", "12", "13", "q", "zzzzzzzz", "999999999999", "-1", "+", "-", "<",
            "-999999999999")

    def stands(self, text, at, word):
        """Whether the word can stand at the @ in the text: it isn't the one that is refused there."""
        told = refusal_of(read_program, text.replace("@", word))
        return told is None or told[2] > at

    def also(self, kind, word):
        """What can stand beyond CAN, by the kinds of words."""
        number = word.lstrip("-").isdigit()
        return {"word": word.isalpha(), "sum": word.isalpha() or number, "cell": number and word[0] != "-"}.get(kind, False)

    def test_each_kind_of_place(self):
        for text, kind in self.PLACES:
            at = text.split(" ").index("@")
            for word in self.SOME:
                can = word in self.CAN[kind] or self.also(kind, word)
                self.assertEqual(self.stands(text, at, word), can, (text, word))
                if not can:
                    self.refused(text.replace("@", word), at)
            for word in NOWHERE:
                if text != "@" or word != "":
                    self.refused(text.replace("@", word), at)

    def test_first_of_several(self):
        self.refused("read 0 a", 1)
        self.refused("read a a tell", 2)
        self.refused("fail fail Fail 00", 2)
        self.refused("tell 1 tell 01 tell", 3)

    def test_where_some_lack(self):
        whole = "read a 0 fork f { if + a - 1 b { has a 0 c } { fail } join f g } 2 g h write 3 < 4 x"
        words = whole.split(" ")
        self.reads(whole)
        # Behind whole steps of the text itself nothing lacks.
        for many in range(len(words)):
            part = " ".join(words[:many])
            if many in (0, 3, 28):
                self.reads(part)
            else:
                self.refused(part, many)
        for word in ("read", "has", "write", "add", "put", "take", "row", "let", "tell", "if", "fork", "join"):
            self.refused(word, 1)

    def test_closing_brace(self):
        self.refused("}", 0)
        self.refused("fail }", 1)
        self.refused("if 1 { } { } }", 6)
        self.refused("fork f { } } 0", 4)

    def test_blanks(self):
        self.refused(" ", 0)
        self.refused("  ", 0)
        self.refused(" fail", 0)
        self.refused("fail ", 1)
        self.refused("fail  fail", 1)
        self.refused("read a  0", 2)
        self.refused("read  a 0", 1)
        self.refused("read a 0 ", 3)
        self.refused("read a ", 2)
        self.refused("fork f {  } 0", 3)
        self.refused("fork f { } 1  a", 5)

    def test_line_ends(self):
        self.refused("\n", 0)
        self.refused("fail\n", 0)
        self.refused("fail\nfail", 0)
        self.refused("\nfail", 0)
        self.refused("fail \n fail", 1)
        self.refused("tell 1\n", 1)
        self.refused("tell a\n tell b", 1)

    def test_numbers(self):
        for word in ("00", "01", "-0", "-00", "-01", "+1", "1234567890123", "-1234567890123", "0000000000001", "1-", "--1"):
            self.refused("tell " + word, 1)
            self.refused("write 0 + 1 " + word, 4)
            self.refused("read a " + word, 2)
            self.refused("fork f { } " + word, 4)
        self.reads("tell 123456789012 tell -123456789012")

    def test_words(self):
        self.refused("tell abcdefghi", 1)
        self.refused("read abcdefghi 0", 1)
        self.refused("fork abcdefghi { } 0", 1)
        self.refused("fork f { } 1 abcdefghi", 5)
        self.refused("join abcdefghi a", 1)

    def test_long_text(self):
        self.refused("x" * 4000, 0)
        self.refused(" " * 4000, 0)
        self.refused(("fail " * 800)[:-1] + "s", 799)
        self.reads(("fail " * 800)[:-1])


class Line(Case):
    def test_kept_as_handed_in(self):
        for line in (0, 1, 7, -1, -12, 10 ** 60):
            self.refused("fail x", 1, line=line)
            self.refused("read a", 2, line=line)
            self.refused("tell 1 ", 2, line=line)
            self.assertEqual(read_program("fail", line=line), (("fail",),))

    def test_very_thing(self):
        line = 10 ** 80
        with self.assertRaises(NoText) as caught:
            read_program("x", line=line)
        self.assertIs(caught.exception.line, line)

    def test_left_out(self):
        self.refused("x", 0)

    def test_by_names(self):
        self.assertEqual(read_program(line=4, text="fail"), (("fail",),))
        self.assertEqual(refusal_of(read_program, line=4, text="fail fails"), ("NoText", 4, 1))


class MangledTexts(Case):
    """[33]: words that stand ahead of the one that is refused could be gone on with."""

    def test_word_by_word(self):
        chance = random.Random(34)
        words = ["fail", "tell", "if", "fork", "join", "read", "{", "}", "{", "}", "0", "1", "2", "a", "b", "+", "-", "<", "",
                 "-1", "write"]
        for _ in range(3000):
            text = " ".join(chance.choice(words) for _ in range(chance.randint(1, 9)))
            told = refusal_of(read_program, text)
            if told is None:
                self.reads(text)
                continue
            at = told[2]
            ahead = text.split(" ")[:at]
            self.assertLessEqual(at, len(text.split(" ")))
            # What stands ahead lacks words at the most: so it can stand there.
            left = refusal_of(read_program, " ".join(ahead))
            self.assertIn(left, (None, ("NoText", 0, at)))
