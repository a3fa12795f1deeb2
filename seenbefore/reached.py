"""Reached states, and shortest streams that lead to them."""

from seenbefore.runs import carried
from seenbefore.watchers import NEW


def reached_states(watcher):
    """Return the ascending tuple of the states to which some stream leads."""
    return tuple(sorted(shortest_ways(watcher)))


def shortest_stream(watcher, state):
    """Return a shortest stream that leads to the state, or None if none does."""
    watcher.require_state(state)
    ways = shortest_ways(watcher)
    if state not in ways:
        return None
    return stream_along(watcher, ways[state])


def shortest_ways(watcher):
    """Return a dict from each reached state to a shortest tuple of rules that lead to it, one after the other.

    Whatever is held, there are messages for each rule of a state: so every way along rules is that of a stream.
    """
    rules = watcher.rules()
    ways = {0: ()}
    last = [0]
    while last:
        following = []
        for rule, (target, _) in rules.items():
            state = rule[0]
            if state in last and target not in ways:
                ways[target] = ways[state] + (rule,)
                following.append(target)
        last = following
    return ways


def stream_along(watcher, way):
    """Return the numbered stream that uses just these rules, one after the other."""
    messages = []
    held = ()
    fresh = 0
    for state, word, test in way:
        if test == NEW:
            value = fresh
            fresh += 1
        else:
            value = held[test]
        messages.append((word, value))
        _, sources = watcher.rule_for(state, word, test)
        held = carried(sources, held, value)
    return tuple(messages)
