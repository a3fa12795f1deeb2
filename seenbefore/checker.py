"""The checker: whether a certificate is right for a pair of watchers as they are now."""

from seenbefore.claims import ALIKE, BROKEN, LEAST, NEVER, SHOWN, UNNEEDED, UNREACHED
from seenbefore.claims import all_pairings, all_places, answer_of_stream, are_places, are_sought, compared
from seenbefore.claims import is_claim, other_value, require_paired, watcher_of
from seenbefore.integers import is_between
from seenbefore.runs import run, verdict_of
from seenbefore.situations import is_situation, steps_from, verdicts_at, verdicts_from
from seenbefore.streams import is_stream


def first_fault(pair, certificate):
    """Return the first fault of any value as a certificate, or None if it is a right one."""
    require_paired(pair)
    if not is_certificate(pair, certificate):
        return ("form",)
    answer, claim, content = certificate
    if claim[0] == LEAST:
        return fault_of_least(watcher_of(pair, claim[1]), answer, claim, content)
    if claim[0] == NEVER:
        return fault_of_never(watcher_of(pair, claim[1]), answer, claim, content)
    watchers, situation = compared(pair, claim)
    if answer != answer_of_stream(claim):
        return fault_of_table(watchers, situation, claim, content)
    if are_sought(claim, verdicts_from(watchers, situation, content)):
        return None
    return ("verdicts",)


def is_certificate(pair, value):
    """Return whether any value has the form of a certificate."""
    if not isinstance(value, tuple) or len(value) != 3:
        return False
    answer, claim, content = value
    if answer not in (SHOWN, BROKEN) or not is_claim(pair, claim):
        return False
    if claim[0] == LEAST:
        watcher = watcher_of(pair, claim[1])
        return are_three_rows(watcher, content) if answer == SHOWN else is_part(watcher, content)
    if answer == answer_of_stream(claim):
        return is_stream(content, pair[0].words)
    if claim[0] == NEVER:
        return are_states(watcher_of(pair, claim[1]), content)
    watchers, _ = compared(pair, claim)
    return is_table(watchers, content)


def is_table(watchers, value):
    """Return whether any value is a strictly ascending tuple of situations of the two watchers."""
    if not isinstance(value, tuple):
        return False
    for situation in value:
        if not is_situation(watchers, situation):
            return False
    return is_ascending(value)


def are_states(watcher, value):
    """Return whether any value is a strictly ascending tuple of states of the watcher."""
    if not isinstance(value, tuple):
        return False
    for state in value:
        if not is_between(state, 0, len(watcher) - 1):
            return False
    return is_ascending(value)


def is_ascending(items):
    """Return whether each item of a tuple is less than the next one."""
    return list(items) == sorted(set(items))


def are_three_rows(watcher, value):
    """Return whether any value has just the streams that show a watcher least."""
    if not isinstance(value, tuple) or len(value) != 3:
        return False
    wanted = (len(watcher), len(all_places(watcher)), len(all_pairings(watcher)))
    for row, many in zip(value, wanted):
        if not isinstance(row, tuple) or len(row) != many:
            return False
        for stream in row:
            if not is_stream(stream, watcher.words):
                return False
    return True


def is_part(watcher, value):
    """Return whether any value has the form of a part that breaks a claim least."""
    if not isinstance(value, tuple) or len(value) == 0:
        return False
    twice = (watcher, watcher)
    if value[0] == UNREACHED:
        return len(value) == 3 and are_places(watcher, value[1], ()) and are_states(watcher, value[2])
    if value[0] == UNNEEDED:
        return len(value) == 4 and are_places(watcher, value[1], value[2:3]) and is_table(twice, value[3])
    if value[0] == ALIKE:
        return len(value) == 5 and is_pairing(watcher, value[1:4]) and is_table(twice, value[4])
    return False


def is_pairing(watcher, value):
    """Return whether any value is a situation of two states, the lesser one first, that pairs all their places."""
    # What is equal to a situation is not always one: True is equal to 1.
    return is_situation((watcher, watcher), value) and value in all_pairings(watcher)


def fault_of_table(watchers, situation, claim, table):
    """Return the first fault of a table for this situation, without the verdicts that are sought for the claim."""
    inside = set(table)
    if situation not in inside:
        return ("start",)
    for k, here in enumerate(table):
        if are_sought(claim, verdicts_at(watchers, here)):
            return ("verdicts", k)
        for word, case, there in steps_from(watchers, here):
            if there not in inside:
                return ("step", k, word, case)
    return None


def fault_of_states(watcher, states, barred):
    """Return the first fault of a tuple of states that is closed under rules and holds 0 and none that is barred."""
    if 0 not in states:
        return ("start",)
    for state in states:
        if state in barred:
            return ("verdict", state)
    for rule, (target, _) in watcher.rules().items():
        if rule[0] in states and target not in states:
            return ("rule", *rule)
    return None


def fault_of_never(watcher, answer, claim, content):
    """Return the first fault of a certificate of a claim never that has the right form."""
    verdict = claim[2]
    if answer == SHOWN:
        verdicts = watcher.verdicts()
        return fault_of_states(watcher, content, [state for state in content if verdicts[state] == verdict])
    if verdict_of(watcher, content) == verdict:
        return None
    return ("verdicts",)


def fault_of_least(watcher, answer, claim, content):
    """Return the first fault of a certificate of a claim least that has the right form."""
    if answer == SHOWN:
        return fault_of_three_rows(watcher, claim, content)
    twice = (watcher, watcher)
    if content[0] == UNREACHED:
        return fault_of_states(watcher, content[2], [content[1]])
    if content[0] == UNNEEDED:
        return fault_of_table(twice, other_value(watcher, content[1], content[2]), claim, content[3])
    return fault_of_table(twice, content[1:4], claim, content[4])


def fault_of_three_rows(watcher, claim, rows):
    """Return the first fault of the streams that are to show a watcher least."""
    twice = (watcher, watcher)
    streams, needs, parts = rows
    for p, stream in enumerate(streams):
        if run(watcher, stream)[0] != p:
            return ("stream", p)
    for (p, i), stream in zip(all_places(watcher), needs):
        if not are_sought(claim, verdicts_from(twice, other_value(watcher, p, i), stream)):
            return ("need", p, i)
    for part, stream in zip(all_pairings(watcher), parts):
        if not are_sought(claim, verdicts_from(twice, part, stream)):
            return ("part", *part)
    return None
