import unittest

from samples import DEEP, STRANGE, built, kinds, look, numbered_streams, once, some_watchers, turning, wide
from seenbefore.errors import UnknownState
from seenbefore.reached import reached_states, shortest_stream
from seenbefore.runs import run
from seenbefore.streams import require_stream
from seenbefore.watchers import Watcher


def row():
    """Each of the six states is reached from the one before, the last ones by a place as test only."""
    return built(1, [(0, 1), (0, 2), (0, 3), (0, 1), (3, 0)], [
        (0, 0, "new", 1, ("value",)),
        (1, 0, "new", 2, ("value", 0)),
        (2, 0, "new", 3, (1, "value", 0)),
        (3, 0, 2, 4, (1,)),
        (4, 0, 0, 5, ()),
    ])


def lengths(watcher, longest):
    """For each state that streams of this length reach, how short the shortest one is: all of them are run."""
    found = {}
    for stream in numbered_streams(watcher.words, longest):
        found.setdefault(run(watcher, stream)[0], len(stream))
    return found


class ReachedCase(unittest.TestCase):
    def assert_reached(self, watcher, wanted):
        """wanted tells for each reached state how long the shortest streams to it are."""
        before = look(watcher)
        self.assertEqual(kinds(reached_states(watcher)), kinds(tuple(sorted(wanted))))
        for state in range(len(watcher)):
            stream = shortest_stream(watcher, state)
            if state in wanted:
                self.assertIs(require_stream(stream, watcher.words), stream)
                self.assertEqual(len(stream), wanted[state])
                self.assertEqual(run(watcher, stream)[0], state)
            else:
                self.assertIsNone(stream)
        self.assertEqual(kinds(look(watcher)), kinds(before))


class ReachedTest(ReachedCase):
    def test_the_example(self):
        self.assertEqual(len(shortest_stream(once(), 2)), 2)

    def test_without_rules(self):
        for watcher in (Watcher(1), Watcher(3), wide()):
            self.assert_reached(watcher, {0: 0})

    def test_with_rules(self):
        self.assert_reached(once(), {0: 0, 1: 1, 2: 2})
        self.assert_reached(turning(), {0: 0, 1: 1, 2: 2, 3: 3, 4: 3})
        self.assert_reached(row(), {0: 0, 1: 1, 2: 2, 3: 3, 4: 4, 5: 5})

    def test_the_start_is_reached_by_the_empty_stream_though_rules_lead_to_it(self):
        watcher = once()
        watcher.add_rule(2, 0, "new", 0, ())
        self.assert_reached(watcher, {0: 0, 1: 1, 2: 2})
        self.assertEqual(kinds(shortest_stream(watcher, 0)), kinds(()))

    def test_states_that_nothing_reaches(self):
        watcher = once()
        watcher.add_state(3, 1)
        watcher.add_state(2, 0)
        self.assert_reached(watcher, {0: 0, 1: 1, 2: 2})
        # They lead to reached states and to each other, but nothing leads to them.
        watcher.add_rule(3, 0, 0, 4, ())
        watcher.add_rule(3, 0, "new", 2, ())
        watcher.add_rule(4, 0, "new", 3, ("value",))
        self.assert_reached(watcher, {0: 0, 1: 1, 2: 2})
        watcher.add_rule(2, 0, "new", 4, ())
        self.assert_reached(watcher, {0: 0, 1: 1, 2: 2, 4: 3, 3: 4})

    def test_states_that_only_a_place_as_test_reaches(self):
        watcher = built(2, [(0, 1), (0, 2), (1, 0), (2, 0)], [
            (0, 1, "new", 1, ("value",)),
            (1, 1, "new", 2, (0, "value")),
            (2, 0, 0, 3, ()),
            (2, 1, 1, 4, ()),
        ])
        self.assert_reached(watcher, {0: 0, 1: 1, 2: 2, 3: 3, 4: 3})
        watcher.remove_rule(2, 0, 0)
        self.assert_reached(watcher, {0: 0, 1: 1, 2: 2, 4: 3})

    def test_a_shorter_way_by_a_later_rule(self):
        watcher = built(2, [(0, 1), (0, 1), (1, 0)], [
            (0, 0, "new", 1, ("value",)),
            (1, 0, "new", 2, ("value",)),
            (2, 0, 0, 3, ()),
        ])
        self.assert_reached(watcher, {0: 0, 1: 1, 2: 2, 3: 3})
        watcher.add_rule(1, 1, 0, 3, ())
        self.assert_reached(watcher, {0: 0, 1: 1, 2: 2, 3: 2})
        watcher.add_rule(0, 1, "new", 3, ())
        self.assert_reached(watcher, {0: 0, 1: 1, 2: 2, 3: 1})

    def test_a_way_over_states_with_higher_numbers(self):
        watcher = built(1, [(0, 0), (0, 2), (0, 1)], [
            (0, 0, "new", 3, ("value",)),
            (3, 0, "new", 2, (0, "value")),
            (2, 0, 1, 1, ()),
        ])
        self.assert_reached(watcher, {0: 0, 3: 1, 2: 2, 1: 3})

    def test_every_shortest_stream_is_as_short_as_can_be(self):
        for words, longest, many in ((1, 6, 60), (2, 5, 25), (3, 4, 15)):
            for watcher in some_watchers(70 + words, many, words):
                found = lengths(watcher, longest)
                # A shortest stream passes each state at most once, so it has at most 5 messages.
                late = [state for state in reached_states(watcher) if state not in found]
                for state in late:
                    self.assertGreater(len(shortest_stream(watcher, state)), longest)
                    self.assertLess(longest, 5)
                found.update({state: len(shortest_stream(watcher, state)) for state in late})
                self.assert_reached(watcher, found)

    def test_edited_in_place_and_asked_again(self):
        watcher = once()
        self.assert_reached(watcher, {0: 0, 1: 1, 2: 2})
        watcher.remove_rule(1, 0, 0)
        self.assert_reached(watcher, {0: 0, 1: 1})
        watcher.add_state(0, 0)
        self.assert_reached(watcher, {0: 0, 1: 1})
        watcher.add_rule(1, 0, 0, 3, ())
        self.assert_reached(watcher, {0: 0, 1: 1, 3: 2})
        watcher.remove_rule(0, 0, "new")
        self.assert_reached(watcher, {0: 0})
        watcher.add_rule(0, 0, "new", 3, ())
        self.assert_reached(watcher, {0: 0, 3: 1})
        watcher.set_verdict(3, 3)
        self.assert_reached(watcher, {0: 0, 3: 1})

    def test_a_twin_is_asked_for_itself(self):
        watcher = once()
        twin = watcher.twin()
        watcher.remove_rule(1, 0, 0)
        self.assert_reached(twin, {0: 0, 1: 1, 2: 2})
        self.assert_reached(watcher, {0: 0, 1: 1})

    def test_unknown_states(self):
        for watcher in (Watcher(1), once(), wide()):
            before = look(watcher)
            for state in STRANGE + (len(watcher), len(watcher) + 1, 6, 10 ** 60, DEEP):
                with self.subTest(state=state):
                    with self.assertRaises(UnknownState) as caught:
                        shortest_stream(watcher, state)
                    self.assertIs(caught.exception.state, state)
            self.assertEqual(kinds(look(watcher)), kinds(before))

    def test_a_state_is_known_once_it_is_added(self):
        watcher = Watcher(2)
        with self.assertRaises(UnknownState):
            shortest_stream(watcher, 1)
        watcher.add_state(0, 0)
        self.assertIsNone(shortest_stream(watcher, 1))
        watcher.add_rule(0, 1, "new", 1, ())
        stream = shortest_stream(watcher, 1)
        self.assertEqual([word for word, _ in stream], [1])

    def test_arguments_by_name(self):
        self.assertEqual(reached_states(watcher=once()), (0, 1, 2))
        self.assertEqual(len(shortest_stream(state=1, watcher=once())), 1)
        with self.assertRaises(UnknownState):
            shortest_stream(state=True, watcher=once())


if __name__ == "__main__":
    unittest.main()
