"""The least watcher: one for all watchers that give every stream the same verdicts."""

from seenbefore.claims import pairings, ways_to_unlike
from seenbefore.needed import dropped, renumbered
from seenbefore.watchers import NEW, Watcher, part_order


def symmetries(watcher, state):
    """Return the ascending tuple of the symmetries of a state, each as the tuple of the partners of its places."""
    watcher.require_state(state)
    ways = ways_to_unlike(watcher, pairings(watcher, state, state))
    return tuple(alike_partners(watcher, ways, state, state))


def least(watcher):
    """Return the least watcher that gives every stream the same verdicts."""
    return Numbering(dropped(watcher)).least()


def alike_partners(watcher, ways, p, q):
    """Return the ascending list of the tuples of places of state q that pair all those of p so that both are alike.

    Pairings from which the states are alike are those without a way to unlike verdicts.
    """
    return [tuple([j for _, j in pairing[2]]) for pairing in pairings(watcher, p, q) if pairing not in ways]


class Numbering:
    """The numbers that the states of a watcher, and their places, get in the least one, as they are reached.

    The watcher has needed places only.
    """

    def __init__(self, watcher):
        self._watcher = watcher
        states = range(len(watcher))
        self._ways = ways_to_unlike(watcher, [part for p in states for q in states for part in pairings(watcher, p, q)])
        # For each number the first of the alike states that is reached, and its places by their numbers.
        self._reached = [(0, ())]

    def least(self):
        """Return the least watcher."""
        rules = []
        number = 0
        # The rules of one state give numbers to more states.
        while number < len(self._reached):
            rules.extend(self.rules_from(number))
            number += 1
        verdicts = self._watcher.verdicts()
        watcher = Watcher(self._watcher.words)
        watcher.set_verdict(0, verdicts[0])
        for state, places in self._reached[1:]:
            watcher.add_state(verdicts[state], len(places))
        for rule in rules:
            watcher.add_rule(*rule)
        return watcher

    def rules_from(self, number):
        """Return the list of the rules of the state with this number, as arguments of add_rule."""
        state, places = self._reached[number]
        unchanged = (number, tuple(range(len(places))))
        rules = []
        for word in range(self._watcher.words):
            for test in (*places, NEW):
                rule = self._watcher.rule_for(state, word, test)
                if rule is not None:
                    target, sources = rule
                    after = self.numbered(target, [renumbered(source, places) for source in sources])
                    if after != unchanged:
                        rules.append((number, word, renumbered(test, places), *after))
        return rules

    def numbered(self, target, sources):
        """Return the number of a target and, for its places by their numbers, the smallest of these sources.

        A target that is reached first gets the next number, and its places the order of the sources.
        """
        for number, (state, places) in enumerate(self._reached):
            ways = alike_partners(self._watcher, self._ways, state, target)
            if ways:
                choices = [tuple([sources[partners[place]] for place in places]) for partners in ways]
                return (number, min(choices, key=sources_order))
        in_order = sorted(range(len(sources)), key=lambda place: part_order(sources[place]))
        self._reached.append((target, tuple(in_order)))
        return (len(self._reached) - 1, tuple([sources[place] for place in in_order]))


def sources_order(sources):
    """Return what tuples of sources are sorted by."""
    return [part_order(source) for source in sources]
