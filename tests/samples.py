"""Values and watchers that several tests share."""

from seenbefore.watchers import Watcher

# What is no number of anything: of every kind, nested and long ones too.
STRANGE = (
    True, False, None, "", "0", "1", "new", "value", (), (0,), (1,), [], [0], {}, {0: 0}, ((0, 0),),
    [[[0]], {"a": (1, [2])}], ("new", True, [None]), -1, -10 ** 69, 10 ** 69,
)


def nested(depth):
    """Return lists, tuples and dicts in each other."""
    value = 0
    for level in range(depth):
        value = ([value], (value,), {"in": value})[level % 3]
    return value


DEEP = nested(15)


def once():
    """The watcher of the document: verdict 1 when a message has the value of the one before."""
    watcher = Watcher(1)
    watcher.add_state(0, 1)
    watcher.add_state(1, 0)
    watcher.add_rule(0, 0, "new", 1, ("value",))
    watcher.add_rule(1, 0, 0, 2, ())
    watcher.add_rule(1, 0, "new", 1, ("value",))
    return watcher


def wide():
    """A watcher with 3 words whose states 1, 2 and 3 hold as many values as their numbers say."""
    watcher = Watcher(3)
    for held in (1, 2, 3):
        watcher.add_state(held, held)
    return watcher


def look(watcher):
    """Everything that can be seen of a watcher, the order of its rules too."""
    return (watcher.words, len(watcher), watcher.verdicts(), watcher.held_counts(), list(watcher.rules().items()))


def kinds(value):
    """The value with the kinds of all its parts, which tells True from 1."""
    if isinstance(value, (tuple, list)):
        return (type(value).__name__, [kinds(part) for part in value])
    if isinstance(value, dict):
        return ("dict", [(kinds(key), kinds(value[key])) for key in value])
    return (type(value).__name__, value)
