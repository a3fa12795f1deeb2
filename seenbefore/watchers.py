"""Watchers: states with verdicts and held values, and the rules between them."""

from seenbefore.errors import InvalidSources, InvalidTest, LimitExceeded, NotAVerdict, NotAWord
from seenbefore.errors import RuleExists, UnknownRule, UnknownState
from seenbefore.integers import is_between, is_integer

MOST_WORDS = 3
MOST_STATES = 6
MOST_HELD = 3
MOST_VERDICT = 3

NEW = "new"
VALUE = "value"


class Watcher:
    """A watcher; two of them are equal if they have the same words, states and rules."""

    def __init__(self, words):
        if not is_between(words, 1, MOST_WORDS):
            raise LimitExceeded(MOST_WORDS)
        self.words = words
        self._verdicts = [0]
        self._held = [0]
        self._rules = {}

    def __len__(self):
        return len(self._verdicts)

    def __eq__(self, other):
        return (isinstance(other, Watcher) and self.words == other.words and self._verdicts == other._verdicts
                and self._held == other._held and self._rules == other._rules)

    def add_state(self, verdict, held):
        """Add a state with so many held values and return its number."""
        require_verdict(verdict)
        if not is_between(held, 0, MOST_HELD):
            raise LimitExceeded(MOST_HELD)
        if len(self._verdicts) == MOST_STATES:
            raise LimitExceeded(MOST_STATES)
        self._verdicts.append(verdict)
        self._held.append(held)
        return len(self._verdicts) - 1

    def set_verdict(self, state, verdict):
        """Give a state another verdict."""
        self.require_state(state)
        require_verdict(verdict)
        self._verdicts[state] = verdict

    def add_rule(self, state, word, test, target, sources):
        """Add the rule (state, word, test) -> (target, sources)."""
        self.require_state(state)
        self.require_state(target)
        self.require_word(word)
        if not is_test(test, self._held[state]):
            raise InvalidTest(test)
        if not are_sources(sources, self._held[target], self._held[state], test):
            raise InvalidSources(sources)
        rule = (state, word, test)
        if rule in self._rules:
            raise RuleExists(rule)
        self._rules[rule] = (target, sources)

    def remove_rule(self, state, word, test):
        """Take the rule for this state, word and test away."""
        rule = (state, word, test)
        if not may_be_rule(rule) or rule not in self._rules:
            raise UnknownRule(rule)
        del self._rules[rule]

    def verdicts(self):
        """Return the verdict of each state."""
        return tuple(self._verdicts)

    def held_counts(self):
        """Return the number of held values of each state."""
        return tuple(self._held)

    def rules(self):
        """Return a new dict from (state, word, test) to (target, sources), in order."""
        return {rule: self._rules[rule] for rule in sorted(self._rules, key=rule_order)}

    def twin(self):
        """Return an equal watcher of its own."""
        other = Watcher(self.words)
        other._verdicts = list(self._verdicts)
        other._held = list(self._held)
        other._rules = {rule: self._rules[rule] for rule in self._rules}
        return other

    def rule_for(self, state, word, test):
        """Return the (target, sources) of the rule for this state, word and test, or None without one.

        The parts are of the kinds that rules have.
        """
        return self._rules.get((state, word, test))

    def require_state(self, state):
        """Raise UnknownState if any value is not a state of this watcher."""
        if not is_between(state, 0, len(self._verdicts) - 1):
            raise UnknownState(state)

    def require_word(self, word):
        """Raise NotAWord if any value is not a word of this watcher."""
        if not is_between(word, 0, self.words - 1):
            raise NotAWord(word)


def require_verdict(verdict):
    """Raise NotAVerdict if any value is not a verdict."""
    if not is_between(verdict, 0, MOST_VERDICT):
        raise NotAVerdict(verdict)


def is_test(test, held):
    """Return whether any value is a test of a state that holds so many values."""
    return test == NEW or is_between(test, 0, held - 1)


def are_sources(sources, wanted, held, test):
    """Return whether any value is a tuple of different sources for the wanted places.

    They are read in a state that holds so many values, by a rule with this test.
    """
    if not isinstance(sources, tuple) or len(sources) != wanted:
        return False
    for source in sources:
        if not is_source(source, held, test):
            return False
    return len(set(sources)) == len(sources)


def is_source(source, held, test):
    """Return whether any value is a source for a rule with this test, in a state that holds so many values."""
    if source == VALUE:
        # The message's value may only be held anew if it equals none that is held.
        return test == NEW
    return is_between(source, 0, held - 1)


def may_be_rule(rule):
    """Return whether the parts of (state, word, test), each any value, are of the kinds that rules have.

    Others must not be looked up: True would find the rule of 1, and a list cannot be a key.
    """
    state, word, test = rule
    return is_integer(state) and is_integer(word) and (test == NEW or is_integer(test))


def rule_order(rule):
    """Return what rules are sorted by."""
    state, word, test = rule
    return (state, word, part_order(test))


def part_order(part):
    """Return what tests and sources are sorted by: places cannot be compared with "new" and "value" behind them."""
    return MOST_HELD if part in (NEW, VALUE) else part
