"""Turned and joined tables: from the tables of some pairs of watchers those of other pairs."""

from itertools import combinations, permutations


def turned_table(table):
    """Return the table of the turned pair."""
    return tuple(sorted([(q, p, turned_pairs(pairs)) for p, q, pairs in table]))


def turned_pairs(pairs):
    """Return the ascending tuple of the pairs with their places exchanged."""
    return tuple(sorted([(j, i) for i, j in pairs]))


def joined_table(watchers, one, two):
    """Return the table for the first and the last of three watchers, made of tables for the others with the middle one.

    Each situation of the one is joined with those of the other that have the same state in the middle.
    """
    from_middle = {}
    for q, r, pairs in two:
        from_middle.setdefault(q, []).append((r, pairs))
    joined = set()
    for p, q, pairs in one:
        for r, others in from_middle.get(q, []):
            for together in joined_pairs(pairs, others, watchers[0].held_counts()[p], watchers[2].held_counts()[r]):
                joined.add((p, r, together))
    return tuple(sorted(joined))


def joined_pairs(pairs, others, first_held, last_held):
    """Return the list of the composed pairs, with each choice of further pairs of places that have no partner."""
    partners = dict(others)
    composed = [(i, partners[j]) for i, j in pairs if j in partners]
    paired = [i for i, _ in pairs]
    taken = [k for _, k in others]
    free_firsts = [i for i in range(first_held) if i not in paired]
    free_lasts = [k for k in range(last_held) if k not in taken]
    return [tuple(sorted(composed + further)) for further in all_further(free_firsts, free_lasts)]


def all_further(firsts, lasts):
    """Return the list of all ways to pair some of the first places with some of the last ones, as lists of pairs."""
    ways = []
    for many in range(min(len(firsts), len(lasts)) + 1):
        for chosen in combinations(firsts, many):
            for partners in permutations(lasts, many):
                ways.append(list(zip(chosen, partners)))
    return ways
