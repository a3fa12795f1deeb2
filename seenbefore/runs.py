"""Runs: what a watcher does with the messages of a stream, one after the other."""

from seenbefore.errors import NotAStream, TooFar
from seenbefore.integers import is_between
from seenbefore.streams import is_message_value
from seenbefore.watchers import NEW, VALUE


def run(watcher, stream):
    """Return the state and the held values after the stream."""
    return run_from(watcher, 0, (), stream)


def verdict_of(watcher, stream):
    """Return the verdict of the stream."""
    state, _ = run(watcher, stream)
    return watcher.verdicts()[state]


def run_from(watcher, state, held, stream):
    """Return the state and the held values after a stream that is read in a state with these held values."""
    for word, value in stream:
        state, held = after_message(watcher, state, held, word, value)
    return (state, held)


def after_message(watcher, state, held, word, value):
    """Return the state and the held values after one message."""
    # A held value goes by its own rule or by none: never by the one for "new".
    test = held.index(value) if value in held else NEW
    rule = watcher.rule_for(state, word, test)
    if rule is None:
        return (state, held)
    target, sources = rule
    return (target, carried(sources, held, value))


def carried(sources, held, value):
    """Return what the sources carry when the message has this value."""
    return tuple([value if source == VALUE else held[source] for source in sources])


class Follower:
    """Follows a twin of a watcher through one message after the other, and back."""

    def __init__(self, watcher):
        self._watcher = watcher.twin()
        # The state and the held values before the first message and after each one: rewinding drops the last ones.
        self._trail = [(0, ())]

    def read(self, word, value):
        """Read a message."""
        self._watcher.require_word(word)
        if not is_message_value(value):
            raise NotAStream(value)
        state, held = self._trail[-1]
        self._trail.append(after_message(self._watcher, state, held, word, value))

    def current_state(self):
        """Return the state after the messages that were read and not taken back."""
        return self._trail[-1][0]

    def current_verdict(self):
        """Return the verdict of the messages that were read and not taken back."""
        return self._watcher.verdicts()[self.current_state()]

    def held_values(self):
        """Return the tuple of the values that are held now, by their places."""
        return self._trail[-1][1]

    def rewind(self, many):
        """Take back the last so many messages."""
        there = len(self._trail) - 1
        if not is_between(many, 0, there):
            raise TooFar(many)
        del self._trail[there - many + 1:]
