"""All errors of the package."""


class RoundError(ValueError):
    """The base class of all errors of the package."""


class PaperError(RoundError):
    """A paper, or another value that a checker was given, is not accepted."""


class TradeError(RoundError):
    """Something was asked for that the people or their market do not allow."""


class TextError(RoundError):
    """A string writes nothing."""


class InvalidPaper(PaperError):
    """The entry of a checker's list that applies first, and where it applies."""

    def __init__(self, word, at):
        self.word = word
        self.at = at


class UnknownPerson(TradeError):
    """Somebody who is not one of the people."""

    def __init__(self, person):
        self.person = person


class UnknownPair(TradeError):
    """A pair that is not where it was looked for."""

    def __init__(self, pair):
        self.pair = pair


class InvalidTrade(TradeError):
    """A ring that cannot be traded, and why."""

    def __init__(self, ring, reason):
        self.ring = ring
        self.reason = reason


class InvalidEvent(TradeError):
    """An event that a market does not apply, and why."""

    def __init__(self, event, reason):
        self.event = event
        self.reason = reason


class InvalidGoal(TradeError):
    """A value that cannot be the goal of a market."""

    def __init__(self, value):
        self.value = value


class NothingToUndo(TradeError):
    """There are only so many steps that can be taken back."""

    def __init__(self, steps):
        self.steps = steps


class InvalidText(TextError):
    """The line and the word at which a text stops to write something."""

    def __init__(self, line, field):
        self.line = line
        self.field = field


class InvalidRow(TextError):
    """A row that a desk does not understand."""

    def __init__(self, row):
        self.row = row
