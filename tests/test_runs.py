import random
import unittest
from itertools import product

from samples import MOST, built, kinds, look, numbered_streams, once, some_stream, some_watchers, turning, wide
from seenbefore.runs import run, verdict_of
from seenbefore.streams import are_alike, numbered
from seenbefore.watchers import Watcher
from told import told_run


class RunCase(unittest.TestCase):
    def assert_run(self, watcher, stream, state, held):
        before = look(watcher)
        self.assertEqual(kinds(run(watcher, stream)), kinds((state, held)))
        self.assertEqual(kinds(verdict_of(watcher, stream)), kinds(watcher.verdicts()[state]))
        self.assertEqual(kinds(look(watcher)), kinds(before))


class RunTest(RunCase):
    def test_the_example(self):
        watcher = once()
        self.assertEqual(
            (run(watcher, ((0, 7), (0, 8))), verdict_of(watcher, ((0, 7), (0, 8), (0, 8)))), ((1, (8,)), 1))

    def test_the_empty_stream(self):
        started = turning()
        started.set_verdict(0, 3)
        for watcher in (Watcher(1), Watcher(3), once(), wide(), started):
            self.assert_run(watcher, (), 0, ())

    def test_held_dropped_and_new_values(self):
        for stream, state, held in (
            (((0, 7),), 1, (7,)),
            (((0, 7), (0, 7)), 2, ()),
            (((0, 7), (0, 8)), 1, (8,)),
            (((0, 7), (0, 8), (0, 7)), 1, (7,)),
            (((0, 7), (0, 8), (0, 8)), 2, ()),
            (((0, 7), (0, 8), (0, 7), (0, 8), (0, 8)), 2, ()),
            (((0, 7), (0, 7), (0, 7), (0, 9)), 2, ()),
        ):
            with self.subTest(stream=stream):
                self.assert_run(once(), stream, state, held)

    def test_a_dropped_value_is_new_again(self):
        start = ((0, 1), (0, 2), (0, 3))
        self.assert_run(turning(), start, 2, (3, 2))
        self.assert_run(turning(), start + ((0, 1),), 2, (1, 3))
        self.assert_run(turning(), start + ((1, 1),), 2, (3, 2))

    def test_a_held_value_never_uses_a_rule_for_new(self):
        watcher = built(2, [(1, 1), (2, 1), (3, 0)], [
            (0, 0, "new", 1, ("value",)),
            (1, 0, "new", 2, ("value",)),
            (1, 1, "new", 3, ()),
        ])
        for word in (0, 1):
            self.assert_run(watcher, ((0, 5), (word, 5)), 1, (5,))
            self.assert_run(watcher, ((0, 5), (word, 5), (word, 5)), 1, (5,))
        self.assert_run(watcher, ((0, 5), (0, 5), (0, 6)), 2, (6,))
        self.assert_run(watcher, ((0, 5), (1, 5), (1, 6)), 3, ())

    def test_a_new_value_never_uses_the_rule_of_a_place(self):
        watcher = built(1, [(1, 1), (2, 0)], [(0, 0, "new", 1, ("value",)), (1, 0, 0, 2, ())])
        self.assert_run(watcher, ((0, 5), (0, 6)), 1, (5,))
        self.assert_run(watcher, ((0, 5), (0, 6), (0, 6)), 1, (5,))
        self.assert_run(watcher, ((0, 5), (0, 6), (0, 5)), 2, ())

    def test_all_sources_are_read_before_anything_changes(self):
        start = ((0, 1), (0, 2))
        self.assert_run(turning(), start, 2, (2, 1))
        self.assert_run(turning(), start + ((0, 2),), 2, (1, 2))
        self.assert_run(turning(), start + ((0, 2), (0, 1)), 2, (2, 1))
        round_about = built(1, [(0, 1), (0, 2), (0, 3)], [
            (0, 0, "new", 1, ("value",)),
            (1, 0, "new", 2, (0, "value")),
            (2, 0, "new", 3, (0, 1, "value")),
            (3, 0, 0, 3, (1, 2, 0)),
            (3, 0, 1, 3, (2, 1, 0)),
            (3, 0, 2, 2, (2, 0)),
            (3, 0, "new", 3, (2, "value", 0)),
        ])
        start = ((0, 7), (0, 8), (0, 9))
        self.assert_run(round_about, start, 3, (7, 8, 9))
        self.assert_run(round_about, start + ((0, 7),), 3, (8, 9, 7))
        self.assert_run(round_about, start + ((0, 8),), 3, (9, 8, 7))
        self.assert_run(round_about, start + ((0, 9),), 2, (9, 7))
        self.assert_run(round_about, start + ((0, 6),), 3, (9, 6, 7))

    def test_value_among_the_sources(self):
        for sources in (("value", 0, 1), (0, "value", 1), (1, 0, "value"), ("value", 1, 0)):
            watcher = built(1, [(0, 1), (0, 2), (0, 3)], [
                (0, 0, "new", 1, ("value",)),
                (1, 0, "new", 2, ("value", 0)),
                (2, 0, "new", 3, sources),
            ])
            items = {"value": 6, 0: 5, 1: 4}
            self.assert_run(watcher, ((0, 4), (0, 5), (0, 6)), 3, tuple(items[source] for source in sources))

    def test_a_rule_for_new_may_forget_the_value(self):
        watcher = built(1, [(0, 1)], [(0, 0, "new", 1, ("value",)), (1, 0, "new", 1, (0,))])
        self.assert_run(watcher, ((0, 4), (0, 5), (0, 5)), 1, (4,))

    def test_the_rule_of_a_place_carries_the_value_by_the_place(self):
        watcher = built(1, [(0, 1), (3, 1)], [(0, 0, "new", 1, ("value",)), (1, 0, 0, 2, (0,))])
        self.assert_run(watcher, ((0, 4), (0, 4)), 2, (4,))

    def test_without_a_rule_nothing_changes(self):
        for words in (1, 2, 3):
            watcher = Watcher(words)
            watcher.set_verdict(0, 2)
            self.assert_run(watcher, tuple((n % words, n % 2) for n in range(9)), 0, ())
        start = ((0, 1), (0, 2))
        for more in (((2, 1),), ((2, 2),), ((2, 9),), ((1, 9),), ((0, 1),), ((1, 9), (2, 9), (2, 1))):
            self.assert_run(turning(), start + more, 2, (2, 1))
        # The value was not stored: 9 is new to the rule that comes later.
        self.assert_run(turning(), start + ((1, 9), (2, 9), (0, 9)), 2, (9, 2))

    def test_each_word_has_its_own_rules(self):
        start = ((0, 1), (0, 2))
        self.assert_run(turning(), start + ((0, 2),), 2, (1, 2))
        self.assert_run(turning(), start + ((1, 2),), 3, ())
        self.assert_run(turning(), start + ((1, 1),), 4, (2,))
        self.assert_run(turning(), start + ((2, 1),), 2, (2, 1))

    def test_large_and_negative_values_and_numbers_of_places(self):
        values = (0, 1, 2, -1, -2, 3, MOST, -MOST, 10 ** 59, 2 ** 61 - 1, 2 ** 61, 2 ** 64)
        for one, two, three in product(values, repeat=3):
            if len({one, two, three}) < 3:
                continue
            start = ((0, one), (0, two))
            self.assert_run(turning(), start, 2, (two, one))
            self.assert_run(turning(), start + ((0, three),), 2, (three, two))
            self.assert_run(turning(), start + ((0, two),), 2, (one, two))
            self.assert_run(turning(), start + ((1, two),), 3, ())
            self.assert_run(turning(), start + ((1, one),), 4, (two,))
            self.assert_run(turning(), start + ((1, three),), 2, (two, one))

    def test_values_beyond_the_limit_are_no_error(self):
        self.assert_run(once(), ((0, 10 ** 70), (0, -10 ** 70), (0, -10 ** 70)), 2, ())

    def test_thousands_of_messages(self):
        many = 20000
        stream = tuple((0, n) for n in range(many))
        self.assert_run(once(), stream, 1, (many - 1,))
        self.assert_run(once(), stream + ((0, many - 1),), 2, ())
        self.assert_run(turning(), stream, 2, (many - 1, many - 2))
        turned = stream + ((0, many - 1), (0, many - 2)) * 4000
        self.assert_run(turning(), turned, 2, (many - 1, many - 2))
        self.assert_run(turning(), turned + ((0, many - 1),), 2, (many - 2, many - 1))

    def test_it_is_what_the_document_tells(self):
        chooser = random.Random(31)
        for watcher in some_watchers(32, 200):
            for values in (range(3), range(5), (MOST, -MOST, 0, 1)):
                stream = some_stream(chooser, watcher.words, values, 30)
                state, held = told_run(watcher, stream)
                self.assert_run(watcher, stream, state, tuple(held[place] for place in range(len(held))))

    def test_arguments_by_name(self):
        stream = ((0, 7), (0, 8), (0, 8))
        self.assertEqual(run(stream=stream, watcher=once()), (2, ()))
        self.assertEqual(run(once(), stream=stream), (2, ()))
        self.assertEqual(verdict_of(stream=stream, watcher=once()), 1)

    def test_an_answer_follows_the_edits(self):
        watcher = once()
        stream = ((0, 7), (0, 7))
        self.assert_run(watcher, stream, 2, ())
        watcher.remove_rule(1, 0, 0)
        self.assert_run(watcher, stream, 1, (7,))
        watcher.add_rule(1, 0, 0, 0, ())
        self.assert_run(watcher, stream, 0, ())
        watcher.set_verdict(0, 3)
        self.assertEqual(verdict_of(watcher, stream), 3)
        watcher.remove_rule(1, 0, 0)
        watcher.add_rule(1, 0, 0, watcher.add_state(2, 1), (0,))
        self.assert_run(watcher, stream, 3, (7,))
        watcher.remove_rule(0, 0, "new")
        self.assert_run(watcher, stream, 0, ())

    def test_a_twin_runs_as_the_watcher_and_lives_by_itself(self):
        watcher = turning()
        twin = watcher.twin()
        stream = ((0, 1), (0, 2), (1, 1))
        twin.remove_rule(2, 1, 1)
        twin.set_verdict(2, 0)
        self.assert_run(watcher, stream, 4, (2,))
        self.assert_run(twin, stream, 2, (2, 1))
        self.assertEqual((verdict_of(watcher, stream), verdict_of(twin, stream)), (3, 0))
        watcher.remove_rule(1, 0, "new")
        self.assert_run(watcher, stream, 1, (1,))
        self.assert_run(twin, stream, 2, (2, 1))


class RenamingTest(RunCase):
    def test_a_renamed_stream_leads_to_the_same_state_with_the_renamed_values(self):
        chooser = random.Random(41)
        for watcher in some_watchers(42, 100):
            stream = some_stream(chooser, watcher.words, range(5), 25)
            state, held = run(watcher, stream)
            for names in (range(4, -1, -1), (1, 2, 3, 4, 0), (-1, -2, -3, -4, -5), (MOST, -MOST, 10 ** 59, 0, -1)):
                renamed = tuple((word, names[value]) for word, value in stream)
                self.assert_run(watcher, renamed, state, tuple(names[value] for value in held))

    def test_alike_streams_have_the_same_verdict_at_each_beginning(self):
        chooser = random.Random(43)
        for watcher in some_watchers(44, 40):
            one = some_stream(chooser, watcher.words, (3, -8, MOST, 0), 20)
            two = numbered(one)
            self.assertTrue(are_alike(one, two))
            for end in range(len(one) + 1):
                self.assertEqual(verdict_of(watcher, one[:end]), verdict_of(watcher, two[:end]))

    def test_all_short_numbered_streams_of_the_example(self):
        for stream in numbered_streams(1, 6):
            again = [one == two for (_, one), (_, two) in zip(stream, stream[1:])]
            self.assertEqual(verdict_of(once(), stream), 1 if any(again) else 0)


if __name__ == "__main__":
    unittest.main()
