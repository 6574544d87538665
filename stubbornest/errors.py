"""The errors of the package: four families, each error with exactly its fields."""


class BenchError(ValueError):
    """The base class of all errors."""


class PaperError(BenchError):
    """What a checker of papers finds."""


class UseError(BenchError):
    """What cannot be used, or cannot be told."""


class LiveError(BenchError):
    """What a live object refuses."""


class TextError(BenchError):
    """What cannot be read from a text."""


class InvalidPaper(PaperError):
    """The first entry of a checker's list that applies, and where."""

    def __init__(self, word, at):
        self.word = word
        self.at = at


class NotUsable(UseError):
    """The parameter that is not what its name says, and where in it."""

    def __init__(self, word, at):
        self.word = word
        self.at = at


class Apart(UseError):
    """Two bounds that differ, so that the number between them is not known."""

    def __init__(self, least, most):
        self.least = least
        self.most = most


class InvalidEvent(LiveError):
    """An event that cannot happen, and why."""

    def __init__(self, event, reason):
        self.event = event
        self.reason = reason


class NothingToUndo(LiveError):
    """Fewer steps were made than are to be taken back."""

    def __init__(self, steps):
        self.steps = steps


class InvalidText(TextError):
    """The line and the field at which a text cannot be read."""

    def __init__(self, line, field):
        self.line = line
        self.field = field


class InvalidRow(TextError):
    """What was read, where it is not of the kind that was asked for."""

    def __init__(self, row):
        self.row = row
