"""PROGRAMS read from texts."""

from forkjoins.errors import NoText
from forkjoins.kinds import is_word
from forkjoins.programs import FORMS

SIGNS = {"+": "plus", "-": "minus", "<": "less"}
DIGITS = "0123456789"
MOST_FIGURES = 12
MOST_NAMES = 12
DEEPEST = 5
MOST_AROUND = 2


class Reader:
    """The words of a text, how many of them were read, and the line that a refusal tells."""

    def __init__(self, words, line):
        self.words = words
        self.place = 0
        self.line = line


def next_word(reader):
    """The next word, not yet read; where there is none some lack."""
    if reader.place == len(reader.words):
        raise NoText(reader.line, reader.place)
    return reader.words[reader.place]


def read_over(reader, stands):
    """Goes on behind the next word; refuses it where it can't stand there."""
    if not stands:
        raise NoText(reader.line, reader.place)
    reader.place += 1


def writes_number(word):
    """Whether a word writes a NUMBER that can be read."""
    figures = word.removeprefix("-")
    if not 1 <= len(figures) <= MOST_FIGURES or not all([figure in DIGITS for figure in figures]):
        return False
    # So neither 00 nor -0 is one.
    return word == "0" or figures[0] != "0"


def writes_natural(word):
    """Whether a word writes a NUMBER from 0 on that can be read."""
    return writes_number(word) and int(word) >= 0


def read_word(reader):
    """A SLOT, a NAME."""
    word = next_word(reader)
    read_over(reader, is_word(word))
    return word


def read_cell(reader):
    """A CELL."""
    word = next_word(reader)
    read_over(reader, writes_natural(word))
    return int(word)


def read_sum(reader, around):
    """A SUM, within so many others."""
    word = next_word(reader)
    if word in SIGNS:
        read_over(reader, around <= MOST_AROUND)
        first = read_sum(reader, around + 1)
        return (SIGNS[word], first, read_sum(reader, around + 1))
    if is_word(word):
        return ("slot", read_word(reader))
    read_over(reader, writes_number(word))
    return ("num", int(word))


def read_names(reader):
    """NAMES: how many there are, and each."""
    many = next_word(reader)
    read_over(reader, writes_natural(many) and int(many) <= MOST_NAMES)
    names = []
    while len(names) < int(many):
        word = next_word(reader)
        read_over(reader, is_word(word) and (not names or names[-1] < word))
        names.append(word)
    return tuple(names)


def read_braced(reader, deep):
    """A PROGRAM between { and }, so DEEP within the text."""
    read_over(reader, next_word(reader) == "{" and deep <= DEEPEST)
    steps = []
    while next_word(reader) != "}":
        steps.append(read_step(reader, deep))
    read_over(reader, True)
    return tuple(steps)


def read_part(reader, part, deep):
    """What stands in a STEP as this part, the STEP being so DEEP within the text."""
    if part == "cell":
        return read_cell(reader)
    if part == "sum":
        return read_sum(reader, 0)
    if part == "program":
        return read_braced(reader, deep + 1)
    if part == "names":
        return read_names(reader)
    return read_word(reader)


def read_step(reader, deep):
    """A STEP."""
    word = next_word(reader)
    read_over(reader, word in FORMS)
    step = [word]
    for part in FORMS[word]:
        step.append(read_part(reader, part, deep))
    return tuple(step)


def read_program(text, *, line=0):
    """The PROGRAM that the text, any, writes; or NoText."""
    # Parted at each single blank: two in a row, or one at an end, give a void word, which stands nowhere.
    reader = Reader(text.split(" ") if text else [], line)
    steps = []
    while reader.place < len(reader.words):
        steps.append(read_step(reader, 1))
    return tuple(steps)
