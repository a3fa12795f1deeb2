"""Claims about a pair of watchers, and the certificates that decide them."""

from itertools import permutations

from seenbefore.errors import InvalidClaim, Unpaired
from seenbefore.integers import is_between
from seenbefore.reached import reached_states, shortest_stream, shortest_ways, stream_along
from seenbefore.situations import START, continuation_along, is_situation, reached_situations, steps_among
from seenbefore.situations import verdicts_at, ways_to
from seenbefore.watchers import MOST_VERDICT

ALIKE = "alike"
TOGETHER = "together"
UNNEEDED = "unneeded"
SWAP = "swap"
NEVER = "never"
LEAST = "least"

SHOWN = "shown"
BROKEN = "broken"

# The first word of a part that breaks a claim least; the other two parts begin like the claims of their names.
UNREACHED = "unreached"


def require_claim(pair, claim):
    """Raise InvalidClaim if any value is not a claim about the pair."""
    if not is_claim(pair, claim):
        raise InvalidClaim()


def decide(pair, claim):
    """Return the certificate for the claim or against it."""
    require_paired(pair)
    require_claim(pair, claim)
    if claim[0] == NEVER:
        return decide_never(pair, claim)
    if claim[0] == LEAST:
        return decide_least(pair, claim)
    return decide_compared(pair, claim)


def require_paired(pair):
    """Raise Unpaired if the two watchers do not have equally many words."""
    if pair[0].words != pair[1].words:
        raise Unpaired()


def is_claim(pair, claim):
    """Return whether any value is a claim about the pair."""
    if not isinstance(claim, tuple) or len(claim) == 0:
        return False
    if claim[0] == ALIKE:
        return len(claim) == 1 or is_situation(pair, claim[1:])
    if claim[0] == TOGETHER:
        return len(claim) == 3 and is_verdict(claim[1]) and is_verdict(claim[2])
    if len(claim) == 1 or claim[1] not in ("A", "B"):
        return False
    return is_claim_about(watcher_of(pair, claim[1]), claim[0], claim[2:])


def is_claim_about(watcher, kind, parts):
    """Return whether any kind and parts behind the side are those of a claim about one watcher."""
    if kind == LEAST:
        return len(parts) == 0
    if kind == NEVER:
        return len(parts) == 1 and is_verdict(parts[0])
    if kind == UNNEEDED:
        return len(parts) == 2 and are_places(watcher, parts[0], parts[1:])
    if kind == SWAP:
        return len(parts) == 3 and are_places(watcher, parts[0], parts[1:]) and parts[1] < parts[2]
    return False


def is_verdict(value):
    """Return whether any value is a verdict."""
    return is_between(value, 0, MOST_VERDICT)


def are_places(watcher, state, places):
    """Return whether any values are a state and places of it."""
    if not is_between(state, 0, len(watcher) - 1):
        return False
    held = watcher.held_counts()[state]
    for place in places:
        if not is_between(place, 0, held - 1):
            return False
    return True


def watcher_of(pair, side):
    """Return the watcher of this side."""
    return pair[0] if side == "A" else pair[1]


def compared(pair, claim):
    """Return the two watchers and the situation from which a claim alike, together, unneeded or swap compares them."""
    if claim[0] == ALIKE and len(claim) == 4:
        return (pair, claim[1:])
    if claim[0] == ALIKE or claim[0] == TOGETHER:
        return (pair, START)
    watcher = watcher_of(pair, claim[1])
    if claim[0] == UNNEEDED:
        return ((watcher, watcher), other_value(watcher, claim[2], claim[3]))
    return ((watcher, watcher), values_exchanged(watcher, claim[2], claim[3], claim[4]))


def other_value(watcher, p, i):
    """Return the situation of a watcher with itself in which only the values at place i of state p differ."""
    return (p, p, tuple([(j, j) for j in range(watcher.held_counts()[p]) if j != i]))


def values_exchanged(watcher, p, i, j):
    """Return the situation of a watcher with itself in which the values at places i and j of state p are exchanged."""
    partners = {i: j, j: i}
    return (p, p, tuple([(k, partners.get(k, k)) for k in range(watcher.held_counts()[p])]))


def are_sought(claim, verdicts):
    """Return whether a stream with these two verdicts shows a claim together, or breaks another one."""
    if claim[0] == TOGETHER:
        return verdicts == claim[1:]
    return verdicts[0] != verdicts[1]


def answer_of_stream(claim):
    """Return what a stream with the verdicts that are sought does to the claim."""
    return SHOWN if claim[0] == TOGETHER else BROKEN


def answer_of_table(claim):
    """Return what a table, or a tuple of states, without what is sought does to the claim."""
    return BROKEN if claim[0] == TOGETHER else SHOWN


def decide_compared(pair, claim):
    """Decide a claim alike, together, unneeded or swap."""
    watchers, situation = compared(pair, claim)
    ways = ways_to_sought(watchers, [situation], claim)
    if situation in ways:
        return (answer_of_stream(claim), claim, continuation_along(watchers, situation, ways))
    return (answer_of_table(claim), claim, reached_situations(watchers, situation))


def ways_to_sought(watchers, situations, claim):
    """Return the ways, from these situations and all behind them, to the verdicts that are sought for the claim."""
    steps = steps_among(watchers, situations)
    return ways_to(steps, [here for here in steps if are_sought(claim, verdicts_at(watchers, here))])


def ways_to_unlike(watcher, situations):
    """Return the ways, from these situations of a watcher with itself and all behind them, to unlike verdicts."""
    return ways_to_sought((watcher, watcher), situations, (ALIKE,))


def decide_never(pair, claim):
    """Decide a claim never."""
    _, side, verdict = claim
    watcher = watcher_of(pair, side)
    ways = shortest_ways(watcher)
    # The ways are in the order of their lengths: the first one is a shortest one.
    for state in ways:
        if watcher.verdicts()[state] == verdict:
            return (answer_of_stream(claim), claim, stream_along(watcher, ways[state]))
    return (answer_of_table(claim), claim, reached_states(watcher))


def decide_least(pair, claim):
    """Decide a claim least."""
    watcher = watcher_of(pair, claim[1])
    twice = (watcher, watcher)
    streams = [shortest_stream(watcher, state) for state in range(len(watcher))]
    if None in streams:
        return (BROKEN, claim, (UNREACHED, streams.index(None), reached_states(watcher)))
    places = all_places(watcher)
    needs = [other_value(watcher, p, i) for p, i in places]
    parts = all_pairings(watcher)
    ways = ways_to_unlike(watcher, needs + parts)
    for place, need in zip(places, needs):
        if need not in ways:
            return (BROKEN, claim, (UNNEEDED, *place, reached_situations(twice, need)))
    for part in parts:
        if part not in ways:
            return (BROKEN, claim, (ALIKE, *part, reached_situations(twice, part)))
    return (SHOWN, claim, (
        tuple(streams),
        tuple([continuation_along(twice, need, ways) for need in needs]),
        tuple([continuation_along(twice, part, ways) for part in parts])))


def all_places(watcher):
    """Return the list of all (p, i), i being a place of state p, in order."""
    return [(p, i) for p, held in enumerate(watcher.held_counts()) for i in range(held)]


def all_pairings(watcher):
    """Return the list of all situations (p, q, pairs), p < q, whose pairs pair all places of both, in order."""
    states = range(len(watcher))
    return [pairing for p in states for q in states if p < q for pairing in pairings(watcher, p, q)]


def pairings(watcher, p, q):
    """Return the list of all situations (p, q, pairs) whose pairs pair all places of both states, in order."""
    held = watcher.held_counts()[p]
    if held != watcher.held_counts()[q]:
        return []
    return [(p, q, tuple(enumerate(partners))) for partners in permutations(range(held))]
