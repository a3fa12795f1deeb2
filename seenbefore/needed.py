"""Needed places: those whose held values decide a verdict, and watchers without the other places."""

from seenbefore.claims import all_places, other_value, ways_to_unlike
from seenbefore.watchers import NEW, VALUE, Watcher


def needed_places(watcher):
    """Return the tuple with the ascending tuple of the needed places of each state."""
    places = all_places(watcher)
    ways = ways_to_unlike(watcher, [other_value(watcher, p, i) for p, i in places])
    needed = [[] for _ in range(len(watcher))]
    for p, i in places:
        if other_value(watcher, p, i) in ways:
            needed[p].append(i)
    return tuple([tuple(row) for row in needed])


def dropped(watcher):
    """Return the watcher with the same states and only the needed places."""
    needed = needed_places(watcher)
    other = Watcher(watcher.words)
    verdicts = watcher.verdicts()
    other.set_verdict(0, verdicts[0])
    for state in range(1, len(watcher)):
        other.add_state(verdicts[state], len(needed[state]))
    for (state, word, test), (target, sources) in watcher.rules().items():
        if test == NEW or test in needed[state]:
            kept = [sources[place] for place in needed[target]]
            other.add_rule(state, word, renumbered(test, needed[state]), target,
                           tuple([renumbered(source, needed[state]) for source in kept]))
    return other


def renumbered(part, places):
    """Return the number of a place among these ones; "new" and "value" stay what they are."""
    return part if part in (NEW, VALUE) else places.index(part)
