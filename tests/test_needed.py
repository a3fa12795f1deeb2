import random
import unittest

from samples import (
    alike_pairs, built, even_watcher, kinds, look, once, some_stream, some_watchers, turning, wide,
)
from seenbefore.claims import decide
from seenbefore.needed import dropped, needed_places
from seenbefore.watchers import Watcher
from told import START, told_closure, told_distance, told_places, told_verdict, verdicts_of


def many_watchers(seed, many):
    """Watchers of several kinds by chance."""
    chooser = random.Random(seed)
    watchers = some_watchers(seed, many) + [other for _, other in alike_pairs(seed, many, 4)]
    return watchers + [even_watcher(chooser, chooser.randint(1, 3), chooser.randint(2, 5)) for _ in range(many)]


def told_needed(watcher):
    """The needed places of each state, by what the document says of the claims unneeded."""
    broken = [(p, i) for p, i in told_places(watcher)
              if told_distance((watcher, watcher), ("unneeded", "A", p, i)) is not None]
    return tuple(tuple(i for state, i in broken if state == p) for p in range(len(watcher)))


def told_dropped(watcher):
    """Everything that can be seen of the dropped watcher, by what the document says of its rules."""
    needed = told_needed(watcher)
    rules = []
    for (state, word, test), (target, sources) in watcher.rules().items():
        numbers = {place: number for number, place in enumerate(needed[state])}
        numbers.update({"new": "new", "value": "value"})
        if test in numbers:
            kept = [sources[place] for place in range(len(sources)) if place in needed[target]]
            rules.append(((state, word, numbers[test]), (target, tuple(numbers[source] for source in kept))))
    return (watcher.words, len(watcher), watcher.verdicts(), tuple(map(len, needed)), rules)


def crossed():
    """Places that are tests and sources: needed in state 1, needed or not in states 2 and 3."""
    return built(2, [(0, 1), (0, 2), (0, 2), (1, 0)], [
        (0, 0, "new", 1, ("value",)),
        (1, 0, "new", 2, (0, "value")),
        # State 2 tells its place 0; its place 1 is a test and a source only.
        (2, 0, 0, 4, ()),
        (2, 0, 1, 2, (0, 1)),
        (2, 1, 1, 3, (1, 0)),
        (2, 1, "new", 3, (1, 0)),
        # State 3 tells its place 1.
        (3, 0, 1, 4, ()),
        (3, 0, 0, 3, (0, 1)),
    ])


class NeededPlacesTest(unittest.TestCase):
    def assert_needed(self, watcher, wanted):
        before = look(watcher)
        self.assertEqual(kinds(needed_places(watcher)), kinds(wanted))
        self.assertEqual(kinds(needed_places(watcher)), kinds(wanted))
        self.assertEqual(look(watcher), before)

    def test_the_example(self):
        self.assert_needed(once(), ((), (0,), ()))

    def test_without_rules_no_place_is_needed(self):
        self.assert_needed(Watcher(1), ((),))
        self.assert_needed(wide(), ((), (), (), ()))

    def test_states_that_nothing_reaches(self):
        one = once()
        one.add_state(0, 2)
        self.assert_needed(one, ((), (0,), (), ()))
        one.add_rule(3, 0, 1, 2, ())
        self.assert_needed(one, ((), (0,), (), (1,)))
        one.add_rule(3, 0, 0, 1, (1,))
        self.assert_needed(one, ((), (0,), (), (0, 1)))

    def test_a_source_and_a_test_that_are_not_needed(self):
        self.assert_needed(crossed(), ((), (0,), (0,), (1,), ()))

    def test_needed_later_only(self):
        # Place 0 goes from state to state before it is told.
        chain = built(1, [(0, 1), (0, 1), (0, 2), (1, 0)], [
            (0, 0, "new", 1, ("value",)), (1, 0, "new", 2, (0,)), (2, 0, "new", 3, ("value", 0)), (3, 0, 1, 4, ())])
        self.assert_needed(chain, ((), (0,), (0,), (1,), ()))
        chain.remove_rule(3, 0, 1)
        self.assert_needed(chain, ((), (), (), (), ()))

    def test_the_places_the_other_way_round(self):
        one = built(1, [(0, 3), (1, 0)], [(1, 0, 0, 2, ())])
        self.assert_needed(one, ((), (0,), ()))
        other = built(1, [(0, 3), (1, 0)], [(1, 0, 2, 2, ())])
        self.assert_needed(other, ((), (2,), ()))
        other.add_rule(1, 0, 0, 2, ())
        self.assert_needed(other, ((), (0, 2), ()))
        other.add_rule(1, 0, 1, 2, ())
        self.assert_needed(other, ((), (0, 1, 2), ()))
        other.add_rule(1, 0, "new", 2, ())
        self.assert_needed(other, ((), (), ()))

    def test_many_watchers(self):
        found = []
        for watcher in many_watchers(401, 40):
            wanted = told_needed(watcher)
            self.assert_needed(watcher, wanted)
            found += [i in wanted[p] for p, i in told_places(watcher)]
        self.assertGreater(min(found.count(True), found.count(False)), 100)

    def test_it_agrees_with_the_claim_unneeded(self):
        for watcher in many_watchers(402, 25) + [crossed(), turning()]:
            needed = needed_places(watcher)
            for p, i in told_places(watcher):
                for pair, side in (((watcher, watcher), "B"), ((watcher, Watcher(watcher.words)), "A")):
                    self.assertEqual(decide(pair, ("unneeded", side, p, i))[0] == "broken", i in needed[p])

    def test_verdicts_renamed_one_to_one(self):
        for watcher in many_watchers(403, 20):
            wanted = needed_places(watcher)
            for names in ((1, 2, 3, 0), (3, 2, 1, 0), (0, 2, 1, 3)):
                other = watcher.twin()
                for state, verdict in enumerate(watcher.verdicts()):
                    other.set_verdict(state, names[verdict])
                self.assert_needed(other, wanted)

    def test_edited_in_place_and_asked_again(self):
        one = crossed()
        self.assert_needed(one, ((), (0,), (0,), (1,), ()))
        one.set_verdict(4, 0)
        self.assert_needed(one, ((), (), (), (), ()))
        one.set_verdict(4, 2)
        self.assert_needed(one, ((), (0,), (0,), (1,), ()))
        one.remove_rule(2, 0, 0)
        self.assert_needed(one, ((), (0,), (0,), (1,), ()))
        one.remove_rule(2, 1, "new")
        self.assert_needed(one, ((), (0,), (0, 1), (1,), ()))
        one.remove_rule(2, 1, 1)
        self.assert_needed(one, ((), (), (), (1,), ()))
        with self.assertRaises(LookupError):
            one.remove_rule(2, 1, 1)
        self.assert_needed(one, ((), (), (), (1,), ()))

    def test_argument_by_name(self):
        self.assertEqual(needed_places(watcher=once()), ((), (0,), ()))


class DroppedTest(unittest.TestCase):
    def assert_dropped(self, watcher, wanted):
        """The dropped watcher, which is a new one each time; the first one is what it was."""
        before = look(watcher)
        found = dropped(watcher)
        self.assertEqual(kinds(look(found)), kinds(look(wanted)))
        self.assertEqual(look(watcher), before)
        self.assertIsNot(found, dropped(watcher))
        self.assertIsNot(found, watcher)
        return found

    def test_nothing_is_left_out(self):
        for watcher in (once(), Watcher(1), Watcher(3), built(2, [(3, 0)], [(0, 0, "new", 1, ())])):
            found = self.assert_dropped(watcher, watcher)
            self.assertEqual(found, watcher)

    def test_places_without_rules(self):
        self.assert_dropped(wide(), built(3, [(1, 0), (2, 0), (3, 0)], []))

    def test_tests_and_sources_are_left_out_or_numbered_anew(self):
        self.assert_dropped(crossed(), built(2, [(0, 1), (0, 1), (0, 1), (1, 0)], [
            (0, 0, "new", 1, ("value",)),
            (1, 0, "new", 2, (0,)),
            (2, 0, 0, 4, ()),
            (2, 1, "new", 3, (0,)),
            (3, 0, 0, 4, ()),
        ]))

    def test_the_last_place_is_the_needed_one(self):
        self.assert_dropped(
            built(1, [(0, 3), (1, 0)], [(1, 0, 2, 2, ())]), built(1, [(0, 1), (1, 0)], [(1, 0, 0, 2, ())]))
        self.assert_dropped(
            built(1, [(0, 3), (1, 0)], [(1, 0, 2, 2, ()), (1, 0, 0, 1, (1, 0, 2)), (1, 0, "new", 1, (0, "value", 2))]),
            built(1, [(0, 1), (1, 0)], [(1, 0, 0, 2, ()), (1, 0, "new", 1, (0,))]))

    def test_states_that_nothing_reaches_stay(self):
        one = once()
        one.add_state(3, 2)
        one.add_rule(3, 0, 1, 2, ())
        wanted = once()
        wanted.add_state(3, 1)
        wanted.add_rule(3, 0, 0, 2, ())
        self.assert_dropped(one, wanted)

    def test_many_watchers(self):
        for watcher in many_watchers(411, 40):
            before = look(watcher)
            self.assertEqual(kinds(look(dropped(watcher))), kinds(told_dropped(watcher)))
            self.assertEqual(look(watcher), before)

    def test_the_same_verdict_after_every_message(self):
        chooser = random.Random(412)
        for watcher in many_watchers(413, 30) + [crossed(), turning()]:
            other = dropped(watcher)
            pair = (watcher, other)
            for here in told_closure(pair, START):
                one, two = verdicts_of(pair, here)
                self.assertEqual(one, two)
            stream = some_stream(chooser, watcher.words, range(4), 20)
            for end in range(len(stream) + 1):
                self.assertEqual(told_verdict(watcher, stream[:end]), told_verdict(other, stream[:end]))

    def test_dropped_once_more(self):
        for watcher in many_watchers(414, 30):
            other = dropped(watcher)
            self.assert_dropped(other, other)
            self.assertEqual(needed_places(other), tuple(tuple(range(held)) for held in other.held_counts()))

    def test_a_watcher_of_its_own(self):
        one = once()
        other = dropped(one)
        other.set_verdict(0, 3)
        other.remove_rule(0, 0, "new")
        other.add_state(2, 2)
        self.assertEqual(look(one), look(once()))
        more = dropped(one)
        one.set_verdict(0, 2)
        one.remove_rule(1, 0, 0)
        self.assertEqual(look(more), look(once()))

    def test_edits_in_place(self):
        one = once()
        self.assert_dropped(one, once())
        one.set_verdict(2, 0)
        self.assert_dropped(one, built(1, [(0, 0), (0, 0)], [(0, 0, "new", 1, ()), (1, 0, "new", 1, ())]))
        one.set_verdict(2, 1)
        self.assert_dropped(one, once())

    def test_argument_by_name(self):
        self.assertEqual(dropped(watcher=once()), once())


if __name__ == "__main__":
    unittest.main()
