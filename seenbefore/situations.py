"""Situations of two watchers: their states, and which of the values that they hold are equal."""

from seenbefore.integers import is_between
from seenbefore.runs import after_message, run, run_from
from seenbefore.watchers import NEW

BOTH = "both"
FIRST = "first"
SECOND = "second"

START = (0, 0, ())


def cases(pair, situation):
    """Return the tuple of the cases of a situation, in order."""
    first, second = held_numbers(pair, situation)
    return cases_between(first, second)


def step(pair, situation, word, case):
    """Return the situation to which a message with this word and of this case leads."""
    held = held_numbers(pair, situation)
    return situation_after(pair, situation, held, word, case)


def reached_situations(pair, situation):
    """Return the ascending tuple of this situation and all to which steps lead from it."""
    return tuple(sorted(steps_among(pair, [situation])))


def situation_behind(pair, stream):
    """Return the situation behind a stream from the start."""
    p, first = run(pair[0], stream)
    q, second = run(pair[1], stream)
    return (p, q, equal_places(first, second))


def verdicts_from(pair, situation, stream):
    """Return the pair of the verdicts that a continuation of the situation gets."""
    first, second = held_numbers(pair, situation)
    p, _ = run_from(pair[0], situation[0], first, stream)
    q, _ = run_from(pair[1], situation[1], second, stream)
    return (pair[0].verdicts()[p], pair[1].verdicts()[q])


def verdicts_at(pair, situation):
    """Return the pair of the verdicts of a situation's states."""
    p, q, _ = situation
    return (pair[0].verdicts()[p], pair[1].verdicts()[q])


def is_situation(pair, value):
    """Return whether any value is a situation of the pair."""
    if not isinstance(value, tuple) or len(value) != 3:
        return False
    p, q, pairs = value
    if not is_between(p, 0, len(pair[0]) - 1) or not is_between(q, 0, len(pair[1]) - 1):
        return False
    return are_pairs(pairs, pair[0].held_counts()[p], pair[1].held_counts()[q])


def are_pairs(pairs, first_held, second_held):
    """Return whether any value is an ascending tuple of pairs of so many places with so many, each at most once."""
    if not isinstance(pairs, tuple):
        return False
    for places in pairs:
        if not isinstance(places, tuple) or len(places) != 2:
            return False
        if not is_between(places[0], 0, first_held - 1) or not is_between(places[1], 0, second_held - 1):
            return False
    firsts = [i for i, _ in pairs]
    return firsts == sorted(set(firsts)) and len({j for _, j in pairs}) == len(pairs)


def steps_from(pair, situation):
    """Return the list of all (word, case, situation to which they lead), by word, then by case."""
    held = held_numbers(pair, situation)
    first, second = held
    in_order = cases_between(first, second)
    return [(word, case, situation_after(pair, situation, held, word, case))
            for word in range(pair[0].words) for case in in_order]


def steps_among(pair, situations):
    """Return a dict from these situations, and all to which steps lead from them, to their lists of steps."""
    steps = {}
    waiting = list(situations)
    while waiting:
        here = waiting.pop()
        if here not in steps:
            steps[here] = steps_from(pair, here)
            waiting.extend([there for _, _, there in steps[here]])
    return steps


def ways_to(steps, ends):
    """Return a dict from each situation from which steps lead to one of the ends to the first of the fewest steps.

    The ends themselves are in it with None.
    """
    arriving = {here: [] for here in steps}
    for here in steps:
        for step_there in steps[here]:
            arriving[step_there[2]].append((here, step_there))
    ways = {end: None for end in ends}
    last = list(ends)
    while last:
        before = []
        for there in last:
            for here, step_there in arriving[there]:
                if here not in ways:
                    ways[here] = step_there
                    before.append(here)
        last = before
    return ways


def continuation_along(pair, situation, ways):
    """Return the continuation of the situation that goes the way of ways_to."""
    first, second = held_numbers(pair, situation)
    messages = []
    while ways[situation] is not None:
        word, case, there = ways[situation]
        value = value_of(case, first, second)
        messages.append((word, value))
        _, first = after_message(pair[0], situation[0], first, word, value)
        _, second = after_message(pair[1], situation[1], second, word, value)
        situation = there
    return tuple(messages)


def held_numbers(pair, situation):
    """Return the tuples of the values at the places of both states, as the continuations number them."""
    p, q, pairs = situation
    first = tuple(range(pair[0].held_counts()[p]))
    partners = {j: i for i, j in pairs}
    second = []
    fresh = len(first)
    for j in range(pair[1].held_counts()[q]):
        if j in partners:
            second.append(partners[j])
        else:
            second.append(fresh)
            fresh += 1
    return (first, tuple(second))


def equal_places(first, second):
    """Return the ascending tuple of the pairs of places at which the two watchers hold equal values."""
    return tuple([(i, second.index(value)) for i, value in enumerate(first) if value in second])


def cases_between(first, second):
    """Return the cases, in order, when the two watchers hold these values."""
    both = [(BOTH, i, j) for i, j in equal_places(first, second)]
    alone = [(FIRST, i) for i, value in enumerate(first) if value not in second]
    others = [(SECOND, j) for j, value in enumerate(second) if value not in first]
    return (*both, *alone, *others, (NEW,))


def situation_after(pair, situation, held, word, case):
    """Return where a message of this case leads from a situation whose watchers hold these values."""
    first, second = held
    value = value_of(case, first, second)
    p, first_after = after_message(pair[0], situation[0], first, word, value)
    q, second_after = after_message(pair[1], situation[1], second, word, value)
    return (p, q, equal_places(first_after, second_after))


def value_of(case, first, second):
    """Return the value of a message of this case, when the two watchers hold these values."""
    if case[0] == NEW:
        return least_other((*first, *second))
    if case[0] == SECOND:
        return second[case[1]]
    return first[case[1]]


def least_other(values):
    """Return the least number that is none of these values."""
    number = 0
    while number in values:
        number += 1
    return number
