import random
import unittest
from collections import Counter
from itertools import permutations

from samples import (
    DEEP, STRANGE, alike_pairs, built, even_pairs, in_two_orders, kinds, look, once, ring, some_pairs, some_stream,
    some_watchers, turning, wide,
)
from seenbefore.claims import decide
from seenbefore.errors import UnknownState
from seenbefore.least import least, symmetries
from seenbefore.texts import format_watcher
from seenbefore.watchers import Watcher
from told import told_distance, told_least, told_reached, told_verdict


def told_symmetries(watcher, state):
    """The symmetries of a state, by what the document says of the claims alike."""
    return tuple(order for order in permutations(range(watcher.held_counts()[state]))
                 if told_distance((watcher, watcher), ("alike", state, state, tuple(enumerate(order)))) is None)


def holding(held, rules, words=1):
    """A watcher whose state 1 holds so many values, and whose state 2 has the verdict 1."""
    return built(words, [(0, held), (1, 0)], rules)


class SymmetriesTest(unittest.TestCase):
    def assert_symmetries(self, watcher, state, wanted):
        before = look(watcher)
        self.assertEqual(kinds(symmetries(watcher, state)), kinds(wanted))
        self.assertEqual(look(watcher), before)

    def test_without_places(self):
        self.assert_symmetries(once(), 0, ((),))
        self.assert_symmetries(once(), 2, ((),))
        self.assert_symmetries(Watcher(1), 0, ((),))

    def test_one_place(self):
        self.assert_symmetries(once(), 1, ((0,),))
        self.assert_symmetries(wide(), 1, ((0,),))

    def test_all_orders_where_nothing_is_told(self):
        self.assert_symmetries(wide(), 2, ((0, 1), (1, 0)))
        self.assert_symmetries(wide(), 3, ((0, 1, 2), (0, 2, 1), (1, 0, 2), (1, 2, 0), (2, 0, 1), (2, 1, 0)))

    def test_places_that_are_told(self):
        for places, wanted in (
            ((), tuple(permutations(range(3)))), ((0, 1, 2), tuple(permutations(range(3)))),
            ((0,), ((0, 1, 2), (0, 2, 1))), ((1, 2), ((0, 1, 2), (0, 2, 1))),
            ((1,), ((0, 1, 2), (2, 1, 0))), ((0, 2), ((0, 1, 2), (2, 1, 0))),
            ((2,), ((0, 1, 2), (1, 0, 2))), ((0, 1), ((0, 1, 2), (1, 0, 2))),
        ):
            self.assert_symmetries(holding(3, [(1, 0, place, 2, ()) for place in places]), 1, wanted)
        apart = holding(3, [(1, 0, 0, 2, ()), (1, 1, 1, 2, ())], words=2)
        self.assert_symmetries(apart, 1, ((0, 1, 2),))

    def test_rings_that_turn(self):
        self.assert_symmetries(ring(2), 2, ((0, 1), (1, 0)))
        self.assert_symmetries(ring(3), 3, ((0, 1, 2), (1, 2, 0), (2, 0, 1)))
        # In three states that turn, the same places are told in each of them.
        turned = built(2, [(0, 3), (1, 0)], [
            (1, 0, "new", 1, (1, 2, 0)), (1, 1, 0, 2, ()), (1, 1, 1, 2, ()), (1, 1, 2, 2, ())])
        self.assert_symmetries(turned, 1, tuple(permutations(range(3))))
        turned.remove_rule(1, 1, 2)
        self.assert_symmetries(turned, 1, ((0, 1, 2),))

    def test_states_that_nothing_reaches(self):
        one = once()
        one.add_state(0, 2)
        self.assert_symmetries(one, 3, ((0, 1), (1, 0)))
        one.add_rule(3, 0, 0, 2, ())
        self.assert_symmetries(one, 3, ((0, 1),))
        one.add_rule(3, 0, 1, 2, ())
        self.assert_symmetries(one, 3, ((0, 1), (1, 0)))

    def test_watchers_by_chance(self):
        many = Counter()
        for watcher in some_watchers(501, 30) + [one for pair in even_pairs(502, 20) for one in pair]:
            for state in range(len(watcher)):
                wanted = told_symmetries(watcher, state)
                self.assert_symmetries(watcher, state, wanted)
                many[len(wanted)] += 1
        self.assertGreater(min(many[1], many[2], many[6]), 10)

    def test_what_is_no_state(self):
        for watcher in (once(), Watcher(1)):
            for value in STRANGE + (DEEP, 3, 6):
                before = look(watcher)
                with self.assertRaises(UnknownState) as caught:
                    symmetries(watcher, value)
                self.assertEqual(kinds(caught.exception.state), kinds(value))
                self.assertEqual(look(watcher), before)

    def test_arguments_by_name(self):
        self.assertEqual(symmetries(state=2, watcher=wide()), ((0, 1), (1, 0)))

    def test_edits_in_place(self):
        one = holding(2, [])
        self.assert_symmetries(one, 1, ((0, 1), (1, 0)))
        one.add_rule(1, 0, 1, 2, ())
        self.assert_symmetries(one, 1, ((0, 1),))
        one.set_verdict(2, 0)
        self.assert_symmetries(one, 1, ((0, 1), (1, 0)))
        one.remove_rule(1, 0, 1)
        one.set_verdict(2, 1)
        self.assert_symmetries(one, 1, ((0, 1), (1, 0)))


def order_of(source):
    return 3 if source == "value" else source


class LeastCase(unittest.TestCase):
    def assert_least(self, watcher, wanted=None):
        """The least watcher is all that the document says of it, and a new one; the first one is what it was."""
        before = look(watcher)
        found = least(watcher)
        self.assertEqual(kinds(look(least(watcher))), kinds(look(found)))
        self.assertIsNot(found, watcher)
        self.assertEqual(look(watcher), before)
        self.assertIsNone(told_distance((watcher, found), ("alike",)))
        self.assertEqual(told_least(found), [])
        self.assert_numbered(found)
        if wanted is not None:
            self.assertEqual(kinds(look(found)), kinds(look(wanted)))
        return found

    def assert_numbered(self, watcher):
        """States and places have the numbers that the document tells, and no rule does nothing."""
        groups = [told_symmetries(watcher, state) for state in range(len(watcher))]
        reached = 1
        for (state, _, _), (target, sources) in watcher.rules().items():
            self.assertLess(state, reached)
            order = [order_of(source) for source in sources]
            self.assertLessEqual(target, reached)
            if target == reached:
                self.assertEqual(order, sorted(order))
                reached += 1
            else:
                choices = [[order[place] for place in symmetry] for symmetry in groups[target]]
                self.assertEqual(order, min(choices))
                unchanged = state == target and list(range(len(sources))) in choices
                self.assertFalse(unchanged)
        self.assertEqual(reached, len(watcher))


class LeastTest(LeastCase):
    def test_the_example(self):
        self.assert_least(once(), once())
        self.assertEqual(len(least(once())), 3)

    def test_one_state(self):
        for words in (1, 2, 3):
            one = Watcher(words)
            one.set_verdict(0, 3)
            self.assert_least(one, one)
            one.add_rule(0, words - 1, "new", 0, ())
            plain = Watcher(words)
            plain.set_verdict(0, 3)
            self.assert_least(one, plain)

    def test_a_state_that_nothing_reaches(self):
        self.assert_least(wide(), Watcher(3))
        one = once()
        one.add_state(3, 2)
        one.add_rule(3, 0, 1, 2, ())
        one.add_rule(3, 0, "new", 1, (0,))
        self.assert_least(one, once())

    def test_unneeded_places(self):
        one = once()
        one.set_verdict(2, 0)
        self.assert_least(one, Watcher(1))
        # Place 1 of state 2 is a test and a source, but tells nothing.
        more = built(1, [(0, 1), (0, 2), (1, 0)], [
            (0, 0, "new", 1, ("value",)), (1, 0, "new", 2, (0, "value")), (2, 0, 1, 2, (0, 1)), (2, 0, 0, 3, ())])
        self.assert_least(more, built(1, [(0, 1), (0, 1), (1, 0)], [
            (0, 0, "new", 1, ("value",)), (1, 0, "new", 2, (0,)), (2, 0, 0, 3, ())]))

    def test_rules_that_change_nothing_up_to_a_symmetry(self):
        pair_of_values = built(2, [(0, 1), (0, 2), (1, 0)], [
            (0, 0, "new", 1, ("value",)), (1, 0, "new", 2, ("value", 0)), (2, 1, 0, 3, ()), (2, 1, 1, 3, ())])
        wanted = built(2, [(0, 1), (0, 2), (1, 0)], [
            (0, 0, "new", 1, ("value",)), (1, 0, "new", 2, (0, "value")), (2, 1, 0, 3, ()), (2, 1, 1, 3, ())])
        self.assert_least(pair_of_values, wanted)
        for rule in ((2, 0, 0, 2, (1, 0)), (2, 0, 1, 2, (0, 1)), (2, 0, "new", 2, (1, 0)), (1, 1, 0, 1, (0,)),
                     (3, 1, "new", 3, ()), (0, 1, "new", 0, ())):
            pair_of_values.add_rule(*rule)
            self.assert_least(pair_of_values, wanted)
        # Here the places are told apart: the one that turns them changes something.
        pair_of_values.remove_rule(2, 1, 1)
        self.assertIn((2, 0, "new"), self.assert_least(pair_of_values).rules())

    def test_the_first_rule_has_its_sources_in_order(self):
        # Both ways into state 2 put its values the other way round: the first one, by word 0, numbers the places.
        for first, second, wanted in (
            (("value", 0), (0, "value"), ("value", 0)), ((0, "value"), ("value", 0), ("value", 0)),
            (("value", 0), ("value", 0), (0, "value")), ((0, "value"), (0, "value"), (0, "value")),
        ):
            one = built(3, [(0, 1), (0, 2), (1, 0)], [
                (0, 0, "new", 1, ("value",)), (1, 0, "new", 2, first), (1, 1, "new", 2, second),
                (2, 2, 0, 3, ()), (2, 0, 1, 3, ())])
            found = self.assert_least(one)
            self.assertEqual(found.rules()[(1, 0, "new")], (2, (0, "value")))
            self.assertEqual(found.rules()[(1, 1, "new")], (2, wanted))
            self.assertEqual((2, 2, 0) in found.rules(), first == (0, "value"))
            self.assertEqual((2, 2, 1) in found.rules(), first == ("value", 0))

    def test_later_rules_have_the_smallest_sources(self):
        for first, second in (((0, "value"), ("value", 0)), (("value", 0), (0, "value")), (("value", 0), ("value", 0))):
            one = built(3, [(0, 1), (0, 2), (1, 0)], [
                (0, 0, "new", 1, ("value",)), (1, 0, "new", 2, first), (1, 1, "new", 2, second),
                (2, 2, 0, 3, ()), (2, 2, 1, 3, ())])
            found = self.assert_least(one)
            self.assertEqual(found.rules()[(1, 0, "new")], (2, (0, "value")))
            self.assertEqual(found.rules()[(1, 1, "new")], (2, (0, "value")))

    def test_rings(self):
        for many in (2, 3):
            found = self.assert_least(ring(many))
            self.assertEqual(len(symmetries(found, many)), many)
            for turned in permutations(range(many)):
                other = ring(many)
                rule = (many - 1, 0, "new")
                target, sources = other.rules()[rule]
                other.remove_rule(*rule)
                other.add_rule(*rule, target, tuple(sources[place] for place in turned))
                same = many == 2 or turned in ((0, 1, 2), (1, 2, 0), (2, 0, 1))
                self.assertEqual(look(self.assert_least(other)) == look(found), same)
                self.assertEqual(decide((ring(many), other), ("alike",))[0] == "shown", same)

    def test_states_are_numbered_breadth_first_by_word_then_by_test(self):
        one = built(2, [(1, 0), (2, 0), (3, 0)], [(0, 1, "new", 3, ())])
        self.assert_least(one, built(2, [(3, 0)], [(0, 1, "new", 1, ())]))
        # Word 0 leads to state 3, word 1 to state 1; from state 3 word 1 leads to state 2.
        other = built(2, [(1, 0), (2, 0), (3, 0)], [
            (0, 1, "new", 1, ()), (0, 0, "new", 3, ()), (3, 1, "new", 2, ())])
        self.assert_least(other, built(2, [(3, 0), (1, 0), (2, 0)], [
            (0, 0, "new", 1, ()), (0, 1, "new", 2, ()), (1, 1, "new", 3, ())]))

    def test_states_are_numbered_by_the_new_numbers_of_the_places(self):
        # State 2 holds the later value first: its place 1 is the new place 0.
        one = built(1, [(0, 1), (0, 2), (1, 0), (2, 0), (3, 0)], [
            (0, 0, "new", 1, ("value",)), (1, 0, "new", 2, ("value", 0)),
            (2, 0, 0, 3, ()), (2, 0, 1, 4, ()), (2, 0, "new", 5, ())])
        self.assert_least(one, built(1, [(0, 1), (0, 2), (2, 0), (1, 0), (3, 0)], [
            (0, 0, "new", 1, ("value",)), (1, 0, "new", 2, (0, "value")),
            (2, 0, 0, 3, ()), (2, 0, 1, 4, ()), (2, 0, "new", 5, ())]))

    def test_alike_states_are_put_together(self):
        # States 2 and 3 hold the same two values in another order.
        one = built(2, [(0, 1), (0, 2), (0, 2), (1, 0), (1, 0)], [
            (0, 0, "new", 1, ("value",)), (1, 0, "new", 3, (0, "value")), (1, 1, "new", 2, ("value", 0)),
            (2, 0, 0, 4, ()), (2, 1, 1, 4, ()), (3, 0, 1, 5, ()), (3, 1, 0, 4, ())])
        self.assert_least(one, built(2, [(0, 1), (0, 2), (1, 0)], [
            (0, 0, "new", 1, ("value",)), (1, 0, "new", 2, (0, "value")), (1, 1, "new", 2, (0, "value")),
            (2, 0, 1, 3, ()), (2, 1, 0, 3, ())]))

    def test_alike_states_with_three_places_in_any_order(self):
        for order in permutations(range(3)):
            found = self.assert_least(in_two_orders(order))
            self.assertEqual(found.held_counts(), (0, 1, 2, 3, 0))
            for word in (0, 1):
                self.assertEqual(found.rules()[(2, word, "new")], (3, (0, 1, "value")))
            self.assertEqual(found.rules()[(3, 1, 2)], (3, (2, 0, 1)))
            self.assertEqual(look(found), look(least(in_two_orders((0, 1, 2)))))

    def test_a_rule_between_alike_states_is_not_written(self):
        one = built(1, [(1, 0), (1, 0), (1, 0)], [
            (0, 0, "new", 1, ()), (1, 0, "new", 2, ()), (2, 0, "new", 3, ())])
        self.assert_least(one, built(1, [(1, 0)], [(0, 0, "new", 1, ())]))
        even = built(1, [(1, 0), (0, 0), (1, 0)], [
            (0, 0, "new", 1, ()), (1, 0, "new", 2, ()), (2, 0, "new", 3, ()), (3, 0, "new", 0, ())])
        self.assert_least(even, built(1, [(1, 0)], [(0, 0, "new", 1, ()), (1, 0, "new", 0, ())]))

    def test_watchers_by_chance(self):
        sizes = Counter()
        for watcher in some_watchers(511, 120):
            sizes[len(self.assert_least(watcher))] += 1
        self.assertGreater(len(sizes), 4)

    def test_watchers_in_disguise(self):
        groups = Counter()
        for one, two in alike_pairs(512, 50) + even_pairs(513, 50):
            found = self.assert_least(two)
            self.assertEqual(kinds(look(least(one))), kinds(look(found)))
            groups[max(len(symmetries(found, state)) for state in range(len(found)))] += 1
        self.assertGreater(min(groups[1], groups[2], groups[6]), 2)

    def test_least_of_a_least_one(self):
        for one, two in alike_pairs(514, 60, 5) + even_pairs(515, 60):
            found = least(two)
            self.assertEqual(kinds(look(least(found))), kinds(look(found)))

    def test_decide_shows_it_least(self):
        for one, two in alike_pairs(516, 40, 5) + even_pairs(517, 40):
            found = least(two)
            pair = (found, one)
            self.assertEqual(decide(pair, ("least", "A"))[0], "shown")
            self.assertEqual(decide(pair, ("alike",))[0], "shown")
            self.assertEqual(decide(pair, ("least", "B"))[0] == "shown", not told_least(one))

    def test_the_texts_are_equal_exactly_if_the_watchers_are_alike(self):
        answers = Counter()
        for one, two in some_pairs(518, 150, 2) + some_pairs(519, 80, 4) + alike_pairs(520, 40) + even_pairs(521, 40):
            same = format_watcher(least(one)) == format_watcher(least(two))
            self.assertEqual(same, told_distance((one, two), ("alike",)) is None)
            answers[same] += 1
        self.assertGreater(min(answers.values()), 40)

    def test_one_rule_or_verdict_more_or_less(self):
        chooser = random.Random(522)
        for one, two in alike_pairs(523, 40) + even_pairs(524, 40):
            other = two.twin()
            if other.rules() and chooser.random() < 0.5:
                other.remove_rule(*chooser.choice(list(other.rules())))
            else:
                other.set_verdict(chooser.randrange(len(other)), chooser.randrange(4))
            same = format_watcher(least(one)) == format_watcher(least(other))
            self.assertEqual(same, decide((one, other), ("alike",))[0] == "shown")

    def test_the_same_verdict_for_every_stream(self):
        chooser = random.Random(525)
        for watcher in some_watchers(526, 40) + [turning()]:
            found = least(watcher)
            for _ in range(10):
                stream = some_stream(chooser, watcher.words, range(4), 15)
                self.assertEqual(told_verdict(watcher, stream), told_verdict(found, stream))

    def test_all_states_count_at_most_once(self):
        for watcher in some_watchers(527, 60):
            self.assertLessEqual(len(least(watcher)), len(told_reached(watcher)))

    def test_edited_in_place_and_back(self):
        one = once()
        self.assert_least(one, once())
        one.set_verdict(2, 0)
        self.assert_least(one, Watcher(1))
        one.set_verdict(2, 1)
        self.assert_least(one, once())
        one.remove_rule(1, 0, "new")
        wanted = once()
        wanted.remove_rule(1, 0, "new")
        self.assert_least(one, wanted)
        with self.assertRaises(LookupError):
            one.remove_rule(1, 0, "new")
        one.add_rule(1, 0, "new", 1, (0,))
        self.assert_least(one, wanted)
        one.remove_rule(1, 0, "new")
        one.add_rule(1, 0, "new", 1, ("value",))
        self.assert_least(one, once())

    def test_a_watcher_of_its_own(self):
        one = once()
        found = least(one)
        found.set_verdict(0, 3)
        found.remove_rule(0, 0, "new")
        self.assertEqual(look(one), look(once()))
        more = least(one)
        one.set_verdict(0, 2)
        self.assertEqual(look(more), look(once()))

    def test_argument_by_name(self):
        self.assertEqual(least(watcher=once()), once())


if __name__ == "__main__":
    unittest.main()
