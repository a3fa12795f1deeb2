import copy
import unittest

from samples import DEEP, STRANGE, kinds, look, once, wide
from seenbefore.errors import LimitExceeded, NotAVerdict, UnknownState
from seenbefore.watchers import Watcher


class NewWatcherTest(unittest.TestCase):
    def test_one_to_three_words(self):
        for words in (1, 2, 3):
            watcher = Watcher(words)
            self.assertEqual(kinds(look(watcher)), kinds((words, 1, (0,), (0,), [])))
            self.assertEqual(look(Watcher(words=words)), look(watcher))

    def test_any_other_number_of_words_is_refused(self):
        for words in STRANGE + (0, 4, -3, 10 ** 60, "2", [1], (3,), {1: 1}, DEEP):
            with self.subTest(words=words):
                before = copy.deepcopy(words)
                with self.assertRaises(LimitExceeded) as caught:
                    Watcher(words)
                self.assertEqual(kinds(caught.exception.limit), ("int", 3))
                self.assertEqual(kinds(words), kinds(before))


class StatesTest(unittest.TestCase):
    def assert_refused(self, watcher, method, arguments, error, field, wanted):
        before = look(watcher)
        with self.assertRaises(error) as caught:
            getattr(watcher, method)(*arguments)
        self.assertEqual(kinds(getattr(caught.exception, field)), kinds(wanted))
        self.assertEqual(kinds(look(watcher)), kinds(before))

    def test_states_are_numbered_in_the_order_of_their_coming(self):
        watcher = Watcher(2)
        for number in (1, 2, 3, 4, 5):
            verdict, held = number % 4, (number + 1) % 4
            self.assertEqual(kinds(watcher.add_state(verdict, held)), ("int", number))
            self.assertEqual(len(watcher), number + 1)
        self.assertEqual(watcher.verdicts(), (0, 1, 2, 3, 0, 1))
        self.assertEqual(watcher.held_counts(), (0, 2, 3, 0, 1, 2))

    def test_every_verdict_and_every_number_of_held_values(self):
        for verdict in range(4):
            for held in range(4):
                watcher = Watcher(1)
                self.assertEqual(watcher.add_state(held=held, verdict=verdict), 1)
                self.assertEqual((watcher.verdicts(), watcher.held_counts()), ((0, verdict), (0, held)))
                watcher.set_verdict(1, 3 - verdict)
                self.assertEqual((watcher.verdicts(), watcher.held_counts()), ((0, 3 - verdict), (0, held)))

    def test_wrong_verdicts_are_refused(self):
        watcher = wide()
        for verdict in STRANGE + (4, 5, DEEP):
            with self.subTest(verdict=verdict):
                self.assert_refused(watcher, "add_state", (verdict, 1), NotAVerdict, "verdict", verdict)
                self.assert_refused(watcher, "set_verdict", (1, verdict), NotAVerdict, "verdict", verdict)

    def test_wrong_numbers_of_held_values_are_refused(self):
        watcher = wide()
        for held in STRANGE + (4, 5, 6, DEEP):
            with self.subTest(held=held):
                self.assert_refused(watcher, "add_state", (1, held), LimitExceeded, "limit", 3)

    def test_the_seventh_state_is_refused(self):
        watcher = wide()
        watcher.add_state(0, 0)
        self.assertEqual(watcher.add_state(3, 3), 5)
        for verdict in range(4):
            for held in range(4):
                self.assert_refused(watcher, "add_state", (verdict, held), LimitExceeded, "limit", 6)

    def test_the_error_listed_first_is_raised(self):
        full = wide()
        full.add_state(0, 0)
        full.add_state(0, 0)
        for watcher in (wide(), full):
            for verdict, held in ((4, 4), (True, True), (None, -1), ([], [])):
                self.assert_refused(watcher, "add_state", (verdict, held), NotAVerdict, "verdict", verdict)
        self.assert_refused(full, "add_state", (4, 0), NotAVerdict, "verdict", 4)
        self.assert_refused(full, "add_state", (0, 4), LimitExceeded, "limit", 3)
        self.assert_refused(full, "add_state", (0, False), LimitExceeded, "limit", 3)
        self.assert_refused(full, "set_verdict", (6, 4), UnknownState, "state", 6)
        self.assert_refused(full, "set_verdict", (True, True), UnknownState, "state", True)

    def test_the_very_value_is_in_the_error(self):
        watcher = Watcher(1)
        for value in ([4], {"a": [1]}):
            with self.assertRaises(NotAVerdict) as caught:
                watcher.add_state(value, 0)
            self.assertIs(caught.exception.verdict, value)
            with self.assertRaises(UnknownState) as caught:
                watcher.set_verdict(value, 0)
            self.assertIs(caught.exception.state, value)

    def test_set_verdict(self):
        watcher = wide()
        self.assertIsNone(watcher.set_verdict(0, 3))
        self.assertIsNone(watcher.set_verdict(verdict=0, state=3))
        self.assertEqual(watcher.verdicts(), (3, 1, 2, 0))
        self.assertIsNone(watcher.set_verdict(0, 0))
        self.assertEqual(watcher.verdicts(), (0, 1, 2, 0))
        self.assertEqual(watcher.held_counts(), (0, 1, 2, 3))

    def test_set_verdict_of_unknown_states(self):
        watcher = wide()
        for state in STRANGE + (4, 5, 6, DEEP):
            with self.subTest(state=state):
                self.assert_refused(watcher, "set_verdict", (state, 1), UnknownState, "state", state)
                self.assert_refused(watcher, "set_verdict", (state, 4), UnknownState, "state", state)

    def test_a_state_is_known_once_it_is_added(self):
        watcher = Watcher(1)
        self.assert_refused(watcher, "set_verdict", (1, 2), UnknownState, "state", 1)
        watcher.add_state(0, 0)
        watcher.set_verdict(1, 2)
        self.assertEqual(watcher.verdicts(), (0, 2))


class TwinTest(unittest.TestCase):
    def test_a_twin_is_equal_and_another_watcher(self):
        for watcher in (Watcher(1), Watcher(3), once(), wide()):
            before = look(watcher)
            twin = watcher.twin()
            self.assertIsInstance(twin, Watcher)
            self.assertIsNot(twin, watcher)
            self.assertIsNot(watcher.twin(), twin)
            self.assertEqual(kinds(look(twin)), kinds(before))
            self.assertEqual(twin, watcher)
            self.assertEqual(look(watcher), before)

    def test_both_live_by_themselves(self):
        changes = (
            lambda watcher: watcher.add_state(3, 3),
            lambda watcher: watcher.set_verdict(0, 2),
            lambda watcher: watcher.add_rule(2, 0, "new", 1, ("value",)),
            lambda watcher: watcher.remove_rule(1, 0, 0),
        )
        for change in changes:
            for changed, kept in ((0, 1), (1, 0)):
                one = once()
                both = (one, one.twin())
                before = look(both[kept])
                change(both[changed])
                self.assertEqual(look(both[kept]), before)
                self.assertNotEqual(look(both[changed]), before)
                self.assertNotEqual(both[0], both[1])
                change(both[kept])
                self.assertEqual(look(both[0]), look(both[1]))
                self.assertEqual(both[0], both[1])

    def test_a_twin_of_a_twin(self):
        one = once()
        two = one.twin()
        three = two.twin()
        one.add_state(3, 0)
        two.set_verdict(1, 3)
        self.assertEqual(look(three), look(once()))

    def test_unequal_watchers(self):
        other_held = Watcher(1)
        other_held.add_state(0, 1)
        other_held.add_state(1, 1)
        for other in (Watcher(1), Watcher(3), wide(), other_held, None, 0, "new", (1, 2)):
            self.assertNotEqual(once(), other)
        self.assertNotEqual(Watcher(1), Watcher(2))
        one, two = Watcher(1), Watcher(1)
        one.add_state(0, 1)
        two.add_state(0, 2)
        self.assertNotEqual(one, two)

    def test_equal_watchers_with_rules_put_in_in_another_order(self):
        one, two = wide(), wide()
        one.add_rule(0, 0, "new", 0, ())
        one.add_rule(0, 1, "new", 0, ())
        two.add_rule(0, 1, "new", 0, ())
        self.assertNotEqual(one, two)
        two.add_rule(0, 0, "new", 0, ())
        self.assertEqual(one, two)


if __name__ == "__main__":
    unittest.main()
