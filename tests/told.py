"""What the document tells, in its own words and apart from the program: tests compare with it."""
import random
import re
from itertools import combinations, permutations, product

from seenbefore.runs import run

START = (0, 0, ())


def told_run(watcher, stream, state=0, values=()):
    """A run that begins in a state with these held values: the state, and a dict from its places to their values."""
    rules = watcher.rules()
    held = dict(enumerate(values))
    for word, value in stream:
        test = "new"
        for place in held:
            if held[place] == value:
                test = place
        if (state, word, test) in rules:
            target, sources = rules[(state, word, test)]
            before = dict(held)
            before["value"] = value
            held = {}
            for place in range(len(sources)):
                held[place] = before[sources[place]]
            state = target
    return state, held


def told_verdict(watcher, stream, state=0, values=()):
    """The verdict of a stream that is read in a state with these held values."""
    return watcher.verdicts()[told_run(watcher, stream, state, values)[0]]


def all_pairings(p_held, q_held):
    """All ways to pair some of so many places with some of so many others."""
    for many in range(min(p_held, q_held) + 1):
        for left in combinations(range(p_held), many):
            for right in permutations(range(q_held), many):
                yield tuple(zip(left, right))


def all_situations(pair):
    """All situations of two watchers, reached or not."""
    one, two = pair
    for p, q in product(range(len(one)), range(len(two))):
        for pairs in all_pairings(one.held_counts()[p], two.held_counts()[q]):
            yield (p, q, pairs)


def told_cases(pair, situation):
    p, q, pairs = situation
    told = [("both", i, j) for i, j in pairs]
    told += [("first", i) for i in range(pair[0].held_counts()[p]) if i not in [left for left, _ in pairs]]
    told += [("second", j) for j in range(pair[1].held_counts()[q]) if j not in [right for _, right in pairs]]
    return tuple(told + [("new",)])


TESTS = {
    "both": lambda i, j: (i, j),
    "first": lambda i: (i, "new"),
    "second": lambda j: ("new", j),
    "new": lambda: ("new", "new"),
}


def told_step(pair, situation, word, case):
    """What the document tells of a step."""
    p, q, pairs = situation
    states, carriers = [], []
    for watcher, state, test in zip(pair, (p, q), TESTS[case[0]](*case[1:])):
        stay = (state, tuple(range(watcher.held_counts()[state])))
        target, sources = watcher.rules().get((state, word, test), stay)
        states.append(target)
        carriers.append(["message" if source in ("value", test) else source for source in sources])
    found = []
    for (i, one), (j, two) in product(enumerate(carriers[0]), enumerate(carriers[1])):
        by_message = one == "message" and two == "message"
        if by_message or ("message" not in (one, two) and (one, two) in pairs):
            found.append((i, j))
    return (states[0], states[1], tuple(sorted(found)))


def told_steps(pair, situation):
    """All (word, case, situation to which they lead), by word, then by case."""
    for word in range(pair[0].words):
        for case in told_cases(pair, situation):
            yield word, case, told_step(pair, situation, word, case)


def told_situation(pair, stream):
    """The situation behind a stream, from the held values of two runs."""
    (p, first), (q, second) = [run(watcher, stream) for watcher in pair]
    found = [(i, j) for i, j in product(range(len(first)), range(len(second))) if first[i] == second[j]]
    return (p, q, tuple(found))


def told_levels(pair, situation):
    """The sets of the situations to which 0, 1, 2, .. steps lead and fewer do not."""
    found, level = {situation}, {situation}
    while level:
        yield level
        level = {there for here in level for _, _, there in told_steps(pair, here)} - found
        found |= level


def told_closure(pair, situation):
    return tuple(sorted(here for level in told_levels(pair, situation) for here in level))


def told_continuation(pair, situation, stream):
    """The verdicts of a continuation, with the values that the document gives to the places."""
    p, q, pairs = situation
    first = list(range(pair[0].held_counts()[p]))
    partners = {j: i for i, j in pairs}
    second, free = [], len(first)
    for j in range(pair[1].held_counts()[q]):
        second.append(partners.get(j, free))
        free += j not in partners
    return told_verdict(pair[0], stream, p, first), told_verdict(pair[1], stream, q, second)


def told_comparison(pair, claim):
    """For a claim about situations: the two watchers, the situation, and which verdicts are looked for."""
    kind = claim[0]
    if kind == "together":
        return pair, START, lambda verdicts: verdicts == claim[1:]
    watchers, situation = pair, claim[1:] or START
    if kind != "alike":
        watcher = pair["AB".index(claim[1])]
        p, i = claim[2:4]
        places = [j for j in range(watcher.held_counts()[p]) if j not in claim[3:]]
        pairs = [(j, j) for j in places]
        if kind == "swap":
            pairs += [(i, claim[4]), (claim[4], i)]
        watchers, situation = (watcher, watcher), (p, p, tuple(sorted(pairs)))
    return watchers, situation, lambda verdicts: verdicts[0] != verdicts[1]


def verdicts_of(pair, situation):
    return pair[0].verdicts()[situation[0]], pair[1].verdicts()[situation[1]]


def told_distance(pair, claim):
    """How many messages the shortest stream has that brings the verdicts that are looked for, or None."""
    watchers, situation, is_sought = told_comparison(pair, claim)
    for distance, level in enumerate(told_levels(watchers, situation)):
        if any(is_sought(verdicts_of(watchers, here)) for here in level):
            return distance
    return None


def told_reached(watcher):
    """A dict from each reached state to the length of the shortest streams to it."""
    found, level, length = {}, {0}, 0
    while level:
        found.update(dict.fromkeys(level, length))
        level = {target for (state, _, _), (target, _) in watcher.rules().items()
                 if state in level and target not in found}
        length += 1
    return found


def told_places(watcher):
    """All (p, i) of a watcher, in order."""
    return [(p, i) for p, held in enumerate(watcher.held_counts()) for i in range(held)]


def told_parts(watcher):
    """All (p, q, pairs) that the claim least asks for, in order."""
    counts = watcher.held_counts()
    return [(p, q, pairs) for p, q in combinations(range(len(counts)), 2) if counts[p] == counts[q]
            for pairs in sorted(all_pairings(counts[p], counts[q])) if len(pairs) == counts[p]]


def told_least(watcher):
    """The parts that break the claim least, without their states and tables."""
    pair = (watcher, watcher)
    parts = [("unreached", p) for p in range(len(watcher)) if p not in told_reached(watcher)]
    parts += [("unneeded", *at) for at in told_places(watcher) if told_distance(pair, ("unneeded", "A", *at)) is None]
    parts += [("alike", *at) for at in told_parts(watcher) if told_distance(pair, ("alike", *at)) is None]
    return parts


def claims_about(pair):
    """All claims about a pair but those about situations other than the start."""
    yield ("alike",)
    for x, y in product(range(4), repeat=2):
        yield ("together", x, y)
    for side, watcher in zip("AB", pair):
        for p, held in enumerate(watcher.held_counts()):
            for i in range(held):
                yield ("unneeded", side, p, i)
            for i, j in combinations(range(held), 2):
                yield ("swap", side, p, i, j)
        for verdict in range(4):
            yield ("never", side, verdict)
        yield ("least", side)


def some_claims(seed, pair, many):
    """Claims about a pair by chance, some of them about situations."""
    chooser = random.Random(seed)
    claims = list(claims_about(pair)) + [("alike", *chooser.choice(list(all_situations(pair)))) for _ in range(15)]
    return [("alike",)] + [chooser.choice(claims) for _ in range(many - 1)]


def is_told_claim(pair, value):
    """Whether a value is one of all the claims there are: its repr tells True from 1 and lists from tuples."""
    claims = [*claims_about(pair), *(("alike", *situation) for situation in all_situations(pair))]
    return repr(value) in {repr(claim) for claim in claims}


def are_told_items(value, items):
    """Whether a value is a strictly ascending tuple of some of these items, which are told in order."""
    places = {repr(item): place for place, item in enumerate(items)}
    if not isinstance(value, tuple) or not all(repr(item) in places for item in value):
        return False
    found = [places[repr(item)] for item in value]
    return all(one < two for one, two in zip(found, found[1:]))


def is_told_table(pair, value):
    return are_told_items(value, sorted(all_situations(pair)))


def are_told_states(watcher, value):
    return are_told_items(value, range(len(watcher)))


def is_told_stream(value, words):
    message = r"\([0-%d], (0|-?[1-9]\d{0,59})\)" % (words - 1)
    return isinstance(value, tuple) and all(re.fullmatch(message, repr(part)) for part in value)


def is_told_row(value, many, words):
    return isinstance(value, tuple) and len(value) == many and all(is_told_stream(part, words) for part in value)


def is_told_content_of_least(watcher, answer, value):
    if not isinstance(value, tuple):
        return False
    if answer == "shown":
        wanted = (len(watcher), len(told_places(watcher)), len(told_parts(watcher)))
        return len(value) == 3 and all(is_told_row(*one, watcher.words) for one in zip(value, wanted))
    beginnings = [("unreached", p) for p in range(len(watcher))]
    beginnings += [("unneeded", *at) for at in told_places(watcher)]
    beginnings += [("alike", *at) for at in told_parts(watcher)]
    if repr(value[:-1]) not in map(repr, beginnings):
        return False
    if value[0] == "unreached":
        return are_told_states(watcher, value[-1])
    return is_told_table((watcher, watcher), value[-1])


def is_told_form(pair, value):
    if not isinstance(value, tuple) or len(value) != 3 or value[0] not in ("shown", "broken"):
        return False
    answer, claim, content = value
    if not is_told_claim(pair, claim):
        return False
    if claim[0] == "least":
        return is_told_content_of_least(pair["AB".index(claim[1])], answer, content)
    if answer == ("shown" if claim[0] == "together" else "broken"):
        return is_told_stream(content, pair[0].words)
    if claim[0] == "never":
        return are_told_states(pair["AB".index(claim[1])], content)
    return is_told_table(told_comparison(pair, claim)[0], content)


def told_fault_of_table(pair, situation, is_sought, table):
    if situation not in table:
        return ("start",)
    for k, here in enumerate(table):
        if is_sought(verdicts_of(pair, here)):
            return ("verdicts", k)
        for word, case, there in told_steps(pair, here):
            if there not in table:
                return ("step", k, word, case)
    return None


def told_fault_of_states(watcher, barred, states):
    faults = [("start",)] * (0 not in states)
    faults += [("verdict", state) for state in states if state in barred]
    faults += [("rule", *rule) for rule, (target, _) in watcher.rules().items()
               if rule[0] in states and target not in states]
    return faults[0] if faults else None


def told_fault_of_least(watcher, answer, content):
    pair = (watcher, watcher)
    if answer == "broken":
        if content[0] == "unreached":
            return told_fault_of_states(watcher, [content[1]], content[2])
        claim = ("unneeded", "A", *content[1:3]) if content[0] == "unneeded" else content[:4]
        return told_fault_of_table(*told_comparison(pair, claim), content[-1])
    for p, stream in enumerate(content[0]):
        if told_run(watcher, stream)[0] != p:
            return ("stream", p)
    asked = [(("need", *at), ("unneeded", "A", *at)) for at in told_places(watcher)]
    asked += [(("part", *at), ("alike", *at)) for at in told_parts(watcher)]
    for (fault, claim), stream in zip(asked, content[1] + content[2]):
        watchers, situation, is_sought = told_comparison(pair, claim)
        if not is_sought(told_continuation(watchers, situation, stream)):
            return fault
    return None


def told_fault(pair, certificate):
    """The first fault of any value as a certificate, or None."""
    if not is_told_form(pair, certificate):
        return ("form",)
    answer, claim, content = certificate
    if claim[0] == "least":
        return told_fault_of_least(pair["AB".index(claim[1])], answer, content)
    if claim[0] == "never":
        watcher = pair["AB".index(claim[1])]
        if answer == "shown":
            barred = [state for state, verdict in enumerate(watcher.verdicts()) if verdict == claim[2]]
            return told_fault_of_states(watcher, barred, content)
        return None if told_verdict(watcher, content) == claim[2] else ("verdicts",)
    watchers, situation, is_sought = told_comparison(pair, claim)
    if answer == ("shown" if claim[0] == "together" else "broken"):
        return None if is_sought(told_continuation(watchers, situation, content)) else ("verdicts",)
    return told_fault_of_table(watchers, situation, is_sought, content)
