"""The refusals: each keeps the very things that it is made of, by their names."""


class JoinError(ValueError):
    """The base of all refusals."""


class PaperError(JoinError):
    """The family of what checkers refuse."""


class RunError(JoinError):
    """The family of what runs, states and books refuse."""


class TextError(JoinError):
    """The family of what readers of texts refuse."""


class NoPaper(PaperError):
    """What was handed in is no such paper: word says why, at where."""

    def __init__(self, word, at):
        self.word = word
        self.at = at


class NoRevision(RunError):
    """There is no such revision, point or event."""

    def __init__(self, path):
        self.path = path


class NoStep(RunError):
    """This can't be done; word says which deed, or why."""

    def __init__(self, word):
        self.word = word


class NoBack(RunError):
    """So many deeds can't be undone."""

    def __init__(self, times):
        self.times = times


class NoText(TextError):
    """A text that writes nothing: the number of its line, and of the first wrong word."""

    def __init__(self, line, word):
        self.line = line
        self.word = word


class NoLine(TextError):
    """A row of no form that the desk knows."""

    def __init__(self, line):
        self.line = line
