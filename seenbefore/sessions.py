"""Sessions: two watchers that are edited, with checkpoints of them and records of certificates about them."""

from seenbefore.checker import first_fault
from seenbefore.claims import decide, require_paired, watcher_of
from seenbefore.errors import LimitExceeded, UnknownCheckpoint, UnknownRecord
from seenbefore.integers import is_between

MOST_CHECKPOINTS = 8
MOST_RECORDS = 16


class Session:
    """A session over twins of the two watchers of a pair."""

    def __init__(self, pair):
        require_paired(pair)
        self._watchers = twins(pair)
        self._checkpoints = []
        self._certificates = []

    def pair(self):
        """Return twins of the two watchers as they are now."""
        return twins(self._watchers)

    def add_state(self, side, verdict, held):
        """Add a state to the watcher of this side and return its number."""
        return watcher_of(self._watchers, side).add_state(verdict, held)

    def set_verdict(self, side, state, verdict):
        """Give a state of the watcher of this side another verdict."""
        watcher_of(self._watchers, side).set_verdict(state, verdict)

    def add_rule(self, side, state, word, test, target, sources):
        """Add a rule to the watcher of this side."""
        watcher_of(self._watchers, side).add_rule(state, word, test, target, sources)

    def remove_rule(self, side, state, word, test):
        """Take a rule of the watcher of this side away."""
        watcher_of(self._watchers, side).remove_rule(state, word, test)

    def checkpoint(self):
        """Keep the watchers as they are now and return the number of the checkpoint."""
        if len(self._checkpoints) == MOST_CHECKPOINTS:
            raise LimitExceeded(MOST_CHECKPOINTS)
        self._checkpoints.append(twins(self._watchers))
        return len(self._checkpoints) - 1

    def restore(self, number):
        """Bring the watchers back as a checkpoint kept them."""
        if not is_between(number, 0, len(self._checkpoints) - 1):
            raise UnknownCheckpoint(number)
        # The checkpoint keeps its own ones: they may be brought back again.
        self._watchers = twins(self._checkpoints[number])

    def decide(self, claim):
        """Return the certificate for or against a claim about the watchers as they are now."""
        return decide(self._watchers, claim)

    def record(self, claim):
        """Decide a claim, keep the certificate and return the number of the record."""
        if len(self._certificates) == MOST_RECORDS:
            raise LimitExceeded(MOST_RECORDS)
        self._certificates.append(self.decide(claim))
        return len(self._certificates) - 1

    def recorded(self, number):
        """Return the certificate of a record."""
        if not is_between(number, 0, len(self._certificates) - 1):
            raise UnknownRecord(number)
        return self._certificates[number]

    def standing(self, number):
        """Return whether the certificate of a record is right for the watchers as they are now."""
        return first_fault(self._watchers, self.recorded(number)) is None


def twins(pair):
    """Return twins of both watchers; one that is both becomes two."""
    return (pair[0].twin(), pair[1].twin())
