"""A desk: a book that is asked and changed by rows of text."""

from forkjoins.books import Book
from forkjoins.cuts import cut_ahead
from forkjoins.errors import NoLine, NoText
from forkjoins.plain import plain_run
from forkjoins.readings import read_program, writes_natural
from forkjoins.rows import row_of
from forkjoins.storereader import read_path, read_store
from forkjoins.storetexts import shown_path, shown_values
from forkjoins.texts import shown_program

# The places in a RUN ROW.
PATH = 0
WAY = 1
TOLD = 2
BEGIN = 5
END = 6
NONE = "-"


def path_in(row, text):
    """The PATH or the WAY that stands in a row as this text; or NoLine."""
    try:
        return read_path(text)
    except NoText:
        raise NoLine(row) from None


def number_in(row, text):
    """The NUMBER from 0 on that stands in a row as this text; or NoLine."""
    if not writes_natural(text):
        raise NoLine(row)
    return int(text)


def store_in(row, text):
    """The STORE that stands in a row as this text; or NoLine."""
    try:
        return read_store(text)
    except NoText:
        raise NoLine(row) from None


def changes_in(row, text):
    """The CHANGES that stand in a row as this text: pairs of a WAY and a text, not yet read; or NoLine."""
    changes = []
    for part in text.split(" | "):
        way, blank, program = part.partition(" ")
        if blank == "":
            raise NoLine(row)
        changes.append((path_in(row, way), program))
    return changes


def do_store(desk, store):
    """For "store": a new book."""
    desk.book = Book(store)
    return "ok"


def do_change(desk, changes):
    """For "change": one CHANGE behind another; each text is read when it is its turn."""
    words = []
    for number, (way, text) in enumerate(changes):
        turned = desk.book.change(way, read_program(text, line=number))
        words.append("yes" if turned else "no")
    return " ".join(words)


def do_back(desk, times):
    """For "back K": so many deeds are undone."""
    desk.book.back(times)
    return "ok"


def do_back_once(desk):
    """For "back": the last deed is undone."""
    return do_back(desk, 1)


def end_values(rows):
    """The text of the VALUES of the first REVISION at its end; one that FAILED has none."""
    return shown_values(rows[0][END]) or NONE


def tell_values(desk):
    """For "values"."""
    return end_values(desk.book.rows_now())


def tell_paths(desk):
    """For "paths"."""
    return " ".join([shown_path(row[PATH]) for row in desk.book.rows_now()])


def tell_way(desk, path):
    """For "way PATH"."""
    return row_of(desk.book.rows_now(), path)[WAY]


def tell_told(desk, path):
    """For "told PATH"."""
    return " ".join([str(number) for number in row_of(desk.book.rows_now(), path)[TOLD]]) or NONE


def tell_begin(desk, path):
    """For "begin PATH"."""
    return shown_values(row_of(desk.book.rows_now(), path)[BEGIN])


def tell_again(desk):
    """For "again"."""
    return " ".join([f"{shown_path(path)}={reason[0]}" for path, reason in desk.book.again_now()]) or NONE


def tell_deeds(desk):
    """For "deeds"."""
    return str(len(desk.book))


def tell_text(desk):
    """For "text"."""
    return shown_program(desk.book.program_now()) or NONE


def tell_then(desk, number):
    """For "then K"."""
    return shown_program(desk.book.then(number)) or NONE


def tell_cut(desk, way):
    """For "cut WAY"."""
    left = cut_ahead(desk.book.program_now(), way)
    return end_values(plain_run(desk.book.store_now(), left))


ALONE = {
    "back": do_back_once,
    "values": tell_values,
    "paths": tell_paths,
    "again": tell_again,
    "deeds": tell_deeds,
    "text": tell_text,
}
# Each word with what reads the rest of its row, and with what answers.
READ = {
    "store": store_in,
    "change": changes_in,
    "back": number_in,
    "way": path_in,
    "told": path_in,
    "begin": path_in,
    "then": number_in,
    "cut": path_in,
}
ANSWERED = {
    "store": do_store,
    "change": do_change,
    "back": do_back,
    "way": tell_way,
    "told": tell_told,
    "begin": tell_begin,
    "then": tell_then,
    "cut": tell_cut,
}


def answer_to(desk, row):
    """The answer to a row, any text; or a refusal."""
    if row in ALONE:
        answer = ALONE[row]
        return answer(desk)
    word, blank, rest = row.partition(" ")
    if word not in READ:
        raise NoLine(row)
    read = READ[word]
    answer = ANSWERED[word]
    return answer(desk, read(row, rest))


class Desk:
    """A desk: its book, how many rows were begun and ended, and whether it is within one."""

    def __init__(self):
        self.book = Book((("plain", 0),))
        self.begun = 0
        self.ended = 0
        self.within = False

    def say(self, row):
        """The answer to a row, any text; or NoLine, or as told."""
        self.begun += 1
        self.within = True
        try:
            return answer_to(self, row)
        finally:
            self.ended += 1
            self.within = False

    def counts(self):
        """How many rows were begun, and how many were ended."""
        return (self.begun, self.ended)

    def is_open(self):
        """True but within a row."""
        return not self.within
