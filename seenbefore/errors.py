"""The errors of the package, each one for one kind of failure."""


class NotAStream(ValueError):
    """The value is not a stream, or not the value of a message."""

    def __init__(self, value):
        self.value = value


class NotAWord(ValueError):
    """The word is not one of the watcher's words."""

    def __init__(self, word):
        self.word = word


class NotAVerdict(ValueError):
    """The verdict is not an integer from 0 to 3."""

    def __init__(self, verdict):
        self.verdict = verdict


class InvalidTest(ValueError):
    """The test is neither a place of the state nor "new"."""

    def __init__(self, test):
        self.test = test


class InvalidSources(ValueError):
    """The sources do not fill the places of the target."""

    def __init__(self, sources):
        self.sources = sources


class InvalidClaim(ValueError):
    """A value is not a claim about the pair."""


class Unpaired(ValueError):
    """Two watchers do not have equally many words."""


class ParseError(ValueError):
    """The line with this index does not fit the lines before it."""

    def __init__(self, line):
        self.line = line


class UnknownState(LookupError):
    """The watcher has no such state."""

    def __init__(self, state):
        self.state = state


class UnknownRule(LookupError):
    """The watcher has no rule for this (state, word, test)."""

    def __init__(self, rule):
        self.rule = rule


class UnknownCheckpoint(LookupError):
    """The session has no checkpoint with this number."""

    def __init__(self, number):
        self.number = number


class UnknownRecord(LookupError):
    """The session has no record with this number."""

    def __init__(self, number):
        self.number = number


class RuleExists(RuntimeError):
    """The watcher has a rule for this (state, word, test) already."""

    def __init__(self, rule):
        self.rule = rule


class TooFar(RuntimeError):
    """There are not so many messages to take back."""

    def __init__(self, many):
        self.many = many


class LimitExceeded(OverflowError):
    """A number goes beyond this limit."""

    def __init__(self, limit):
        self.limit = limit
