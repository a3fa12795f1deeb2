"""Values and watchers that several tests share."""
import random

from seenbefore.watchers import Watcher

# What is no number of anything: of every kind, nested and long ones too.
STRANGE = (
    True, False, None, "", "0", "1", "new", "value", (), (0,), (1,), [], [0], {}, {0: 0}, ((0, 0),),
    [[[0]], {"a": (1, [2])}], ("new", True, [None]), -1, -10 ** 69, 10 ** 69,
)


def nested(depth):
    """Return lists, tuples and dicts in each other."""
    value = 0
    for level in range(depth):
        value = ([value], (value,), {"in": value})[level % 3]
    return value


DEEP = nested(15)


def once():
    """The watcher of the document: verdict 1 when a message has the value of the one before."""
    watcher = Watcher(1)
    watcher.add_state(0, 1)
    watcher.add_state(1, 0)
    watcher.add_rule(0, 0, "new", 1, ("value",))
    watcher.add_rule(1, 0, 0, 2, ())
    watcher.add_rule(1, 0, "new", 1, ("value",))
    return watcher


def wide():
    """A watcher with 3 words whose states 1, 2 and 3 hold as many values as their numbers say."""
    watcher = Watcher(3)
    for held in (1, 2, 3):
        watcher.add_state(held, held)
    return watcher


def look(watcher):
    """Everything that can be seen of a watcher, the order of its rules too."""
    return (watcher.words, len(watcher), watcher.verdicts(), watcher.held_counts(), list(watcher.rules().items()))


def kinds(value):
    """The value with the kinds of all its parts, which tells True from 1."""
    if isinstance(value, (tuple, list)):
        return (type(value).__name__, [kinds(part) for part in value])
    if isinstance(value, dict):
        return ("dict", [(kinds(key), kinds(value[key])) for key in value])
    return (type(value).__name__, value)


MOST = 10 ** 60 - 1


def built(words, states, rules):
    """A watcher with these states (verdict, held) after state 0, and these rules with their targets and sources."""
    watcher = Watcher(words)
    for verdict, held in states:
        watcher.add_state(verdict, held)
    for rule in rules:
        watcher.add_rule(*rule)
    return watcher


def turning():
    """Holds two values; word 0 turns them or takes a new one in, word 1 tells which of them came, word 2 does nothing.

    State 1 holds the first value, state 2 two of them, states 3 and 4 tell. In state 2 there is no rule
    for word 0 with place 1, for word 1 with "new", and for word 2.
    """
    return built(3, [(0, 1), (1, 2), (2, 0), (3, 1)], [
        (0, 0, "new", 1, ("value",)),
        (1, 0, "new", 2, ("value", 0)),
        (2, 0, 0, 2, (1, 0)),
        (2, 0, "new", 2, ("value", 0)),
        (2, 1, 0, 3, ()),
        (2, 1, 1, 4, (0,)),
        (4, 1, "new", 1, ("value",)),
    ])


def any_watcher(chooser, words, states):
    """A watcher by chance, with about four of five rules that it could have."""
    watcher = Watcher(words)
    for _ in range(states - 1):
        watcher.add_state(chooser.randrange(4), chooser.randrange(4))
    held = watcher.held_counts()
    for state in range(states):
        for word in range(words):
            for test in [*range(held[state]), "new"]:
                items = [*range(held[state]), "value"][:held[state] + (test == "new")]
                target = chooser.choice([target for target in range(states) if held[target] <= len(items)])
                if chooser.random() < 0.8:
                    watcher.add_rule(state, word, test, target, tuple(chooser.sample(items, held[target])))
    return watcher


def some_watchers(seed, many, words=None):
    """Watchers by chance, the same for the same seed."""
    chooser = random.Random(seed)
    return [any_watcher(chooser, words or chooser.randint(1, 3), chooser.randint(1, 6)) for _ in range(many)]


def some_stream(chooser, words, values, length):
    """A stream by chance."""
    return tuple((chooser.randrange(words), chooser.choice(values)) for _ in range(length))


def numbered_streams(words, longest):
    """All numbered streams up to this length, shorter ones first."""
    level = [((), 0)]
    for _ in range(longest + 1):
        yield from (stream for stream, _ in level)
        level = [(stream + ((word, value),), max(used, value + 1))
                 for stream, used in level for word in range(words) for value in range(used + 1)]


def some_pairs(seed, many, states=6):
    """Pairs of watchers by chance with equally many words; some of a watcher with itself."""
    chooser = random.Random(seed)
    pairs = []
    for number in range(many):
        words = chooser.randint(1, 3)
        one, two = [any_watcher(chooser, words, chooser.randint(1, states)) for _ in range(2)]
        pairs.append((one, one) if number % 5 == 0 else (one, two))
    return pairs


def disguised(chooser, watcher):
    """Another watcher by chance that gives all streams the same verdicts.

    Its states stand for states of the first one: with the places in another order, some with a place more that
    nobody needs, some twice, and in another order.
    """
    held = watcher.held_counts()
    parts = [(state, shuffled(chooser, range(held[state]))) for state in range(1, len(watcher))]
    while len(parts) < 5 and chooser.random() < 0.7:
        state = chooser.randrange(len(watcher))
        parts.append((state, shuffled(chooser, range(held[state]))))
    parts = [(state, shuffled(chooser, [*order, "more"]) if len(order) < 3 and chooser.random() < 0.3 else order)
             for state, order in parts]
    parts = [(0, [])] + shuffled(chooser, parts)
    other = Watcher(watcher.words)
    other.set_verdict(0, watcher.verdicts()[0])
    for state, order in parts[1:]:
        other.add_state(watcher.verdicts()[state], len(order))
    for number, (state, order) in enumerate(parts):
        for word in range(watcher.words):
            for test in [*range(len(order)), "new"]:
                add_disguised_rule(chooser, watcher, other, parts, number, word, test)
    return other


def add_disguised_rule(chooser, watcher, other, parts, number, word, test):
    state, order = parts[number]
    there = "new" if test == "new" or order[test] == "more" else order[test]
    if (state, word, there) not in watcher.rules():
        return
    target, sources = watcher.rules()[(state, word, there)]
    carriers = [test if source == "value" and test != "new" else source if source == "value" else order.index(source)
                for source in sources]
    free = [source for source in [*range(len(order)), *["value"] * (test == "new")] if source not in carriers]
    fitting = [at for at, (left, places) in enumerate(parts) if left == target and ("more" not in places or free)]
    if not fitting:
        # Nothing could be carried to the place more, so the watcher has one state less than it needs.
        raise Misfit()
    at = chooser.choice(fitting)
    other.add_rule(number, word, test, at, tuple(
        chooser.choice(free) if place == "more" else carriers[place] for place in parts[at][1]))


class Misfit(Exception):
    """A watcher could not be disguised in the way that was drawn."""


def shuffled(chooser, items):
    return chooser.sample(list(items), len(items))


def alike_pairs(seed, many, states=4):
    """Pairs of watchers by chance that give all streams the same verdicts."""
    chooser = random.Random(seed)
    pairs = []
    while len(pairs) < many:
        one = any_watcher(chooser, chooser.randint(1, 3), chooser.randint(1, states))
        try:
            pairs.append((one, disguised(chooser, one)))
        except Misfit:
            continue
    return pairs


def changed(chooser, value):
    """The value with one part of it, at any depth, changed by chance."""
    if isinstance(value, tuple) and value and chooser.random() < 0.75:
        at = chooser.randrange(len(value))
        rows = [
            value[:at] + (changed(chooser, value[at]),) + value[at + 1:],
            value[:at] + (changed(chooser, value[at]),) + value[at + 1:],
            value[:at] + value[at + 1:],
            value[:at] + (value[at],) + value[at:],
            value[:at] + (chooser.choice(STRANGE + (0, 1, 2)),) + value[at:],
            value[:at] + value[at:at + 2][::-1] + value[at + 2:],
            list(value),
        ]
        return chooser.choice(rows)
    choices = [*STRANGE, 0, 1, 2, 3, 4, "A", "B", "alike", "unneeded", "swap", "unreached", "together"]
    if isinstance(value, int):
        choices += [value + 1, value - 1, value == 1, str(value)] * 4
    return chooser.choice(choices)


def even_watcher(chooser, words, states):
    """A watcher by chance whose rules treat all places of a state alike, but for the order in which they are kept."""
    watcher = Watcher(words)
    for number in range(states - 1):
        # State by state there is one place more, so that all can be reached.
        watcher.add_state(chooser.randrange(3), number % 3 + 1 if number < 3 else chooser.randrange(4))
    for state, held in enumerate(watcher.held_counts()):
        for word in range(words):
            for test in ("place", "new"):
                if chooser.random() < 0.8 and (held or test == "new"):
                    add_even_rules(chooser, watcher, state, word, test)
    return watcher


KEPT = {
    "nothing": lambda held, test: [],
    "all": lambda held, test: [*range(held)],
    "all and the value": lambda held, test: [*range(held), "value"],
    "the value": lambda held, test: ["value"],
    "the others": lambda held, test: [at for at in range(held) if at != test],
    "the place": lambda held, test: [test],
}


def add_even_rules(chooser, watcher, state, word, test):
    """The same rule for all places, or one for new values, to a target with so many places as are kept."""
    held = watcher.held_counts()[state]
    tests = [*range(held)] if test == "place" else ["new"]
    ways = ["nothing", "all"] + (["the others", "the place"] if test == "place" else ["all and the value", "the value"])
    kept = KEPT[chooser.choice([way for way in ways if len(KEPT[way](held, tests[0])) in watcher.held_counts()])]
    target = chooser.choice([target for target, count in enumerate(watcher.held_counts())
                             if count == len(kept(held, tests[0]))])
    for one in tests:
        watcher.add_rule(state, word, one, target, tuple(shuffled(chooser, kept(held, one))))


def even_pairs(seed, many):
    """Pairs of watchers by chance that give all streams the same verdicts, often with states that have symmetries."""
    chooser = random.Random(seed)
    pairs = []
    while len(pairs) < many:
        one = even_watcher(chooser, chooser.randint(2, 3), chooser.randint(3, 6))
        try:
            pairs.append((one, disguised(chooser, one)))
        except Misfit:
            continue
    return pairs


def ring(many):
    """State `many` holds so many values in a ring: word 1 tells the place behind the one that came before it."""
    rules = [(0, 0, "new", 1, ("value",)), (1, 0, "new", 2, (0, "value")), (2, 0, "new", 3, (0, 1, "value"))][:many]
    watcher = built(2, [(0, held) for held in range(1, many + 1)] + [(0, 1), (1, 0)], rules)
    for place in range(many):
        watcher.add_rule(many, 1, place, many + 1, ((place + 1) % many,))
    watcher.add_rule(many + 1, 1, 0, many + 2, ())
    return watcher


def ladder(words):
    """Word 0 takes in three new values: states 3 and 4 may hold these, state 5 is to tell."""
    return built(words, [(0, 1), (0, 2), (0, 3), (0, 3), (1, 0)], [
        (0, 0, "new", 1, ("value",)), (1, 0, "new", 2, (0, "value")), (2, 0, "new", 3, (0, 1, "value"))])


def in_two_orders(order):
    """A ladder whose state 4 is state 3 with its places in this order; from state 2 word 1 leads there.

    Word 0 tells the first place, word 1 the second one, and it brings the third one to the first place.
    """
    watcher = ladder(2)
    watcher.add_rule(2, 1, "new", 4, tuple((0, 1, "value")[place] for place in order))
    for state, places in ((3, (0, 1, 2)), (4, order)):
        watcher.add_rule(state, 0, places.index(0), 5, ())
        watcher.add_rule(state, 1, places.index(1), 5, ())
        watcher.add_rule(state, 1, places.index(2), state, tuple(places.index((2, 0, 1)[place]) for place in places))
    return watcher
