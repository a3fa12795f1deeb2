"""Situations of two watchers: their states, and which of the values that they hold are equal."""

from seenbefore.runs import after_message, run, run_from
from seenbefore.watchers import NEW

BOTH = "both"
FIRST = "first"
SECOND = "second"


def cases(pair, situation):
    """Return the tuple of the cases of a situation, in order."""
    first, second = held_numbers(pair, situation)
    return cases_between(first, second)


def step(pair, situation, word, case):
    """Return the situation to which a message with this word and of this case leads."""
    held = held_numbers(pair, situation)
    return situation_after(pair, situation, held, word, case)


def reached_situations(pair, situation):
    """Return the ascending tuple of this situation and all to which steps lead from it."""
    seen = {situation}
    last = [situation]
    while last:
        following = []
        for here in last:
            for word, case, there in steps_from(pair, here):
                if there not in seen:
                    seen.add(there)
                    following.append(there)
        last = following
    return tuple(sorted(seen))


def situation_behind(pair, stream):
    """Return the situation behind a stream from the start."""
    p, first = run(pair[0], stream)
    q, second = run(pair[1], stream)
    return (p, q, equal_places(first, second))


def verdicts_from(pair, situation, stream):
    """Return the pair of the verdicts that a continuation of the situation gets."""
    first, second = held_numbers(pair, situation)
    p, _ = run_from(pair[0], situation[0], first, stream)
    q, _ = run_from(pair[1], situation[1], second, stream)
    return (pair[0].verdicts()[p], pair[1].verdicts()[q])


def steps_from(pair, situation):
    """Return the list of all (word, case, situation to which they lead), by word, then by case."""
    held = held_numbers(pair, situation)
    first, second = held
    in_order = cases_between(first, second)
    return [(word, case, situation_after(pair, situation, held, word, case))
            for word in range(pair[0].words) for case in in_order]


def held_numbers(pair, situation):
    """Return the tuples of the values at the places of both states, as the continuations number them."""
    p, q, pairs = situation
    first = tuple(range(pair[0].held_counts()[p]))
    partners = {j: i for i, j in pairs}
    second = []
    fresh = len(first)
    for j in range(pair[1].held_counts()[q]):
        if j in partners:
            second.append(partners[j])
        else:
            second.append(fresh)
            fresh += 1
    return (first, tuple(second))


def equal_places(first, second):
    """Return the ascending tuple of the pairs of places at which the two watchers hold equal values."""
    return tuple([(i, second.index(value)) for i, value in enumerate(first) if value in second])


def cases_between(first, second):
    """Return the cases, in order, when the two watchers hold these values."""
    both = [(BOTH, i, j) for i, j in equal_places(first, second)]
    alone = [(FIRST, i) for i, value in enumerate(first) if value not in second]
    others = [(SECOND, j) for j, value in enumerate(second) if value not in first]
    return (*both, *alone, *others, (NEW,))


def situation_after(pair, situation, held, word, case):
    """Return where a message of this case leads from a situation whose watchers hold these values."""
    first, second = held
    value = value_of(case, first, second)
    p, first_after = after_message(pair[0], situation[0], first, word, value)
    q, second_after = after_message(pair[1], situation[1], second, word, value)
    return (p, q, equal_places(first_after, second_after))


def value_of(case, first, second):
    """Return the value of a message of this case, when the two watchers hold these numbers of held_numbers."""
    if case[0] == NEW:
        # There are no more numbers than places, and they begin with 0: so this one is not held.
        return len(first) + len(second)
    if case[0] == SECOND:
        return second[case[1]]
    return first[case[1]]
