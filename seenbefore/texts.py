"""Texts: watchers and streams written and read back."""

from seenbefore.errors import InvalidSources, InvalidTest, LimitExceeded, NotAVerdict, NotAWord, ParseError
from seenbefore.errors import RuleExists, UnknownState
from seenbefore.integers import is_between
from seenbefore.watchers import Watcher

# All numbers of a watcher are written with one digit; only the values of streams may have more.
DIGITS = {"0": 0, "1": 1, "2": 2, "3": 3, "4": 4, "5": 5}

FIRST_LINES = {"words 1": 1, "words 2": 2, "words 3": 3}

EMPTY = "-"

MOST_DIGITS = 60


def format_watcher(watcher):
    """Return the lines of a watcher."""
    lines = [f"words {watcher.words}"]
    for verdict, held in zip(watcher.verdicts(), watcher.held_counts()):
        lines.append(f"state {verdict} {held}")
    for rule, (target, sources) in watcher.rules().items():
        lines.append(" ".join([str(part) for part in ("rule", *rule, target, *sources)]))
    return "".join([f"{line}\n" for line in lines])


def format_stream(stream):
    """Return the text of a stream."""
    if stream == ():
        return EMPTY
    return " ".join([f"{word}:{value}" for word, value in stream])


def parse_watcher(text):
    """Return the watcher that is written in these lines, or raise ParseError with the index of the first wrong line."""
    lines = text.split("\n")
    ends = len(lines) - 1
    if lines[0] not in FIRST_LINES:
        raise ParseError(0)
    watcher = Watcher(FIRST_LINES[lines[0]])
    for index in range(1, ends):
        if not read_line(watcher, index, lines[index]):
            raise ParseError(index)
    if ends == 1 or lines[ends] != "":
        raise ParseError(ends)
    return watcher


def read_line(watcher, index, line):
    """Add what the line tells to the watcher of the lines before it, and return whether the line fits them."""
    try:
        return read_parts(watcher, index, [DIGITS.get(part, part) for part in line.split(" ")])
    except (UnknownState, NotAVerdict, LimitExceeded, NotAWord, InvalidTest, InvalidSources, RuleExists):
        return False


def read_parts(watcher, index, parts):
    """Add what the parts of a line tell, and return whether they are those of a line that may stand there."""
    if index == 1:
        return read_start(watcher, parts)
    if parts[0] == "state":
        return read_state(watcher, parts)
    return read_rule(watcher, parts)


def read_start(watcher, parts):
    """Give state 0 its verdict, and return whether the parts are those of its line."""
    if len(parts) != 3 or parts[0] != "state" or parts[2] != 0:
        return False
    watcher.set_verdict(0, parts[1])
    return True


def read_state(watcher, parts):
    """Add a state, and return whether the parts behind "state" are so many, and no rule stands before them."""
    if len(parts) != 3 or len(watcher.rules()) > 0:
        return False
    watcher.add_state(parts[1], parts[2])
    return True


def read_rule(watcher, parts):
    """Add a rule, and return whether the parts are those of a rule behind all rules before it."""
    if len(parts) < 5 or parts[0] != "rule":
        return False
    _, state, word, test, target, *sources = parts
    watcher.add_rule(state, word, test, target, tuple(sources))
    return list(watcher.rules())[-1] == (state, word, test)


def parse_stream(text, words):
    """Return the stream for so many words that is written in the text, or raise ParseError."""
    if text == EMPTY:
        return ()
    messages = []
    for part in text.split(" "):
        word, _, value = part.partition(":")
        if not is_between(DIGITS.get(word), 0, words - 1) or not is_written_value(value):
            raise ParseError(0)
        messages.append((DIGITS[word], int(value)))
    return tuple(messages)


def is_written_value(text):
    """Return whether a text is an integer of at most 60 digits, without leading zeros and "-0"."""
    digits = text[1:] if text.startswith("-") else text
    # Only these are told by int, which also reads signs, spaces and other digits, and no number of any length.
    if len(digits) > MOST_DIGITS or not digits.isascii() or not digits.isdigit():
        return False
    return digits[0] != "0" or text == "0"
