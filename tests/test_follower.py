import copy
import random
import unittest

from samples import DEEP, MOST, STRANGE, kinds, look, once, some_stream, some_watchers, turning
from seenbefore.errors import NotAStream, NotAWord, TooFar
from seenbefore.runs import Follower, run, verdict_of
from seenbefore.watchers import Watcher

NO_VALUES = tuple(value for value in STRANGE if value != -1) + (DEEP, MOST + 1, -MOST - 1, 10 ** 60, -10 ** 60)


def sight(follower):
    return (follower.current_state(), follower.current_verdict(), follower.held_values())


class FollowerCase(unittest.TestCase):
    def assert_at(self, follower, watcher, stream):
        """The follower is where this stream leads, and stays there when it is asked."""
        state, held = run(watcher, stream)
        for _ in range(2):
            self.assertEqual(kinds(sight(follower)), kinds((state, verdict_of(watcher, stream), held)))

    def assert_refused(self, follower, method, arguments, error, field, wanted):
        before = sight(follower)
        handed = copy.deepcopy(arguments)
        with self.assertRaises(error) as caught:
            getattr(follower, method)(*arguments)
        self.assertIs(getattr(caught.exception, field), wanted)
        self.assertEqual(kinds(arguments), kinds(handed))
        self.assertEqual(kinds(sight(follower)), kinds(before))


class ReadTest(FollowerCase):
    def test_the_example(self):
        follower = Follower(once())
        self.assertIsNone(follower.read(0, 7))
        self.assertIsNone(follower.read(0, 7))
        before = follower.current_verdict()
        self.assertIsNone(follower.rewind(1))
        self.assertEqual((before, follower.current_verdict(), follower.held_values()), (1, 0, (7,)))

    def test_the_start(self):
        for watcher in (Watcher(1), once(), turning()):
            watcher.set_verdict(0, 2)
            self.assertEqual(kinds(sight(Follower(watcher))), kinds((0, 2, ())))

    def test_each_beginning_of_a_stream(self):
        chooser = random.Random(51)
        for watcher in [once(), turning()] + some_watchers(52, 60):
            follower = Follower(watcher)
            stream = some_stream(chooser, watcher.words, (0, 1, -1, MOST, -MOST), 25)
            for end, (word, value) in enumerate(stream):
                self.assert_at(follower, watcher, stream[:end])
                self.assertIsNone(follower.read(word, value))
            self.assert_at(follower, watcher, stream)

    def test_thousands_of_messages(self):
        follower = Follower(turning())
        for value in range(6000):
            follower.read(0, value)
        self.assertEqual(sight(follower), (2, 1, (5999, 5998)))
        follower.rewind(5998)
        self.assertEqual(sight(follower), (2, 1, (1, 0)))
        follower.rewind(2)
        self.assertEqual(sight(follower), (0, 0, ()))

    def test_arguments_by_name(self):
        follower = Follower(watcher=turning())
        follower.read(value=5, word=0)
        follower.read(0, value=6)
        self.assertEqual(follower.held_values(), (6, 5))
        follower.rewind(many=1)
        self.assertEqual(follower.held_values(), (5,))

    def test_wrong_words_are_refused(self):
        for watcher in (once(), turning()):
            follower = Follower(watcher)
            follower.read(0, 7)
            for word in STRANGE + (watcher.words, watcher.words + 1, 3, 10 ** 60, DEEP):
                for value in (7, 8, None, True, MOST + 1, [word]):
                    with self.subTest(word=word, value=value):
                        self.assert_refused(follower, "read", (word, value), NotAWord, "word", word)
            self.assert_at(follower, watcher, ((0, 7),))

    def test_wrong_values_are_refused(self):
        watcher = turning()
        follower = Follower(watcher)
        for end in range(3):
            for value in NO_VALUES:
                for word in range(3):
                    with self.subTest(word=word, value=value):
                        self.assert_refused(follower, "read", (word, value), NotAStream, "value", value)
            self.assert_at(follower, watcher, ((0, 0), (0, 1))[:end])
            follower.read(0, end)

    def test_the_largest_and_least_values_are_read(self):
        follower = Follower(turning())
        follower.read(0, MOST)
        follower.read(0, -MOST)
        self.assertEqual(follower.held_values(), (-MOST, MOST))

    def test_a_refused_message_is_not_counted(self):
        follower = Follower(once())
        follower.read(0, 7)
        for arguments, error in (((1, 7), NotAWord), ((0, True), NotAStream)):
            with self.assertRaises(error):
                follower.read(*arguments)
        self.assert_refused(follower, "rewind", (2,), TooFar, "many", 2)
        follower.read(0, 7)
        self.assertEqual(sight(follower), (2, 1, ()))
        follower.rewind(2)
        self.assertEqual(sight(follower), (0, 0, ()))


class RewindTest(FollowerCase):
    def test_by_none_several_and_all(self):
        watcher = turning()
        stream = ((0, 1), (0, 2), (2, 2), (0, 2), (1, 9), (1, 1), (1, 3))
        for many in range(len(stream) + 1):
            follower = Follower(watcher)
            for word, value in stream:
                follower.read(word, value)
            self.assertIsNone(follower.rewind(0))
            self.assert_at(follower, watcher, stream)
            self.assertIsNone(follower.rewind(many))
            left = stream[:len(stream) - many]
            self.assert_at(follower, watcher, left)
            self.assertIsNone(follower.rewind(0))
            self.assert_at(follower, watcher, left)
            for more in (((0, 5), (0, 2), (1, 5)), stream[len(stream) - many:]):
                for word, value in more:
                    follower.read(word, value)
                self.assert_at(follower, watcher, left + more)
                follower.rewind(len(more))
                self.assert_at(follower, watcher, left)

    def test_messages_that_changed_nothing_are_messages(self):
        follower = Follower(once())
        for value in (7, 7, 7, 7):
            follower.read(0, value)
        for wanted in ((2, 1, ()), (2, 1, ()), (1, 0, (7,)), (0, 0, ())):
            follower.rewind(1)
            self.assertEqual(sight(follower), wanted)

    def test_too_far(self):
        follower = Follower(turning())
        for many in [value for value in STRANGE] + [1, 2, DEEP]:
            self.assert_refused(follower, "rewind", (many,), TooFar, "many", many)
        for value in (1, 2, 3):
            follower.read(0, value)
        for many in [value for value in STRANGE] + [4, 5, -2, -3, -4, 10 ** 60, "1", [1], (1,), {1: 1}, DEEP]:
            with self.subTest(many=many):
                self.assert_refused(follower, "rewind", (many,), TooFar, "many", many)
        follower.rewind(2)
        for many in (2, 3, 4, True, False, -1):
            self.assert_refused(follower, "rewind", (many,), TooFar, "many", many)
        follower.read(0, 5)
        self.assert_refused(follower, "rewind", (3,), TooFar, "many", 3)
        follower.rewind(2)
        self.assert_refused(follower, "rewind", (1,), TooFar, "many", 1)
        self.assertIsNone(follower.rewind(0))
        self.assertEqual(sight(follower), (0, 0, ()))

    def test_by_chance(self):
        chooser = random.Random(61)
        for watcher in some_watchers(62, 60):
            follower = Follower(watcher)
            stream = ()
            for _ in range(40):
                if chooser.random() < 0.7:
                    message = (chooser.randrange(watcher.words), chooser.randrange(-1, 4))
                    follower.read(*message)
                    stream += (message,)
                else:
                    many = chooser.randint(0, min(3, len(stream)))
                    follower.rewind(many)
                    stream = stream[:len(stream) - many]
                self.assert_at(follower, watcher, stream)


class TwinTest(FollowerCase):
    def test_two_followers_of_one_watcher(self):
        watcher = turning()
        one, two = Follower(watcher), Follower(watcher)
        one.read(0, 1)
        two.read(0, 2)
        one.read(0, 2)
        self.assertEqual((one.held_values(), two.held_values()), ((2, 1), (2,)))
        one.rewind(2)
        self.assertEqual((sight(one), two.held_values()), ((0, 0, ()), (2,)))
        self.assert_refused(one, "rewind", (1,), TooFar, "many", 1)
        two.rewind(1)

    def test_edits_of_the_watcher_change_nothing_in_the_follower(self):
        watcher, kept = once(), once()
        follower = Follower(watcher)
        stream = ((0, 7), (0, 8), (0, 8))
        edits = (
            lambda: watcher.set_verdict(0, 3),
            lambda: watcher.remove_rule(1, 0, 0),
            lambda: watcher.remove_rule(1, 0, "new"),
            lambda: watcher.add_rule(1, 0, "new", watcher.add_state(2, 1), (0,)),
            lambda: watcher.set_verdict(2, 2),
        )
        for edit in edits:
            edit()
            self.assert_at(follower, kept, ())
            for end, (word, value) in enumerate(stream):
                follower.read(word, value)
                self.assert_at(follower, kept, stream[:end + 1])
            follower.rewind(3)
        for word, value in stream[:2]:
            follower.read(word, value)
        watcher.remove_rule(0, 0, "new")
        self.assert_at(follower, kept, stream[:2])
        follower.read(0, 8)
        self.assert_at(follower, kept, stream)
        follower.rewind(1)
        self.assert_at(follower, kept, stream[:2])

    def test_following_changes_nothing_in_the_watcher(self):
        watcher = turning()
        before = look(watcher)
        follower = Follower(watcher)
        for value in (1, 2, 2, 3):
            follower.read(0, value)
            self.assertEqual(kinds(look(watcher)), kinds(before))
        follower.rewind(3)
        with self.assertRaises(NotAWord):
            follower.read(3, 1)
        self.assertEqual(kinds(look(watcher)), kinds(before))

    def test_a_later_follower_sees_the_edits(self):
        watcher = once()
        earlier = Follower(watcher)
        watcher.set_verdict(1, 3)
        later = Follower(watcher)
        for follower in (earlier, later):
            follower.read(0, 7)
        self.assertEqual((earlier.current_verdict(), later.current_verdict()), (0, 3))


if __name__ == "__main__":
    unittest.main()
