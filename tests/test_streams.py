import copy
import unittest
from itertools import product

from samples import DEEP, STRANGE, kinds
from seenbefore.errors import NotAStream
from seenbefore.streams import are_alike, exchanged, is_numbered, numbered, require_stream

MOST = 10 ** 60 - 1


def small_streams(words, values, length):
    """All streams of at most this length with these values."""
    messages = list(product(range(words), values))
    for many in range(length + 1):
        yield from product(messages, repeat=many)


class RequireStreamTest(unittest.TestCase):
    def assert_refused(self, value, words):
        before = copy.deepcopy(value)
        with self.assertRaises(NotAStream) as caught:
            require_stream(value, words)
        self.assertIs(caught.exception.value, value)
        self.assertEqual(kinds(value), kinds(before))

    def test_streams_are_returned(self):
        for words in (1, 2, 3):
            last = words - 1
            for stream in (
                (), ((0, 0),), ((last, 7), (0, -5), (last, 7)), ((0, MOST), (last, -MOST)),
                ((0, 0), (0, 1), (0, 0)), tuple((n % words, n) for n in range(6000)),
            ):
                with self.subTest(words=words, stream=stream[:4]):
                    before = copy.deepcopy(stream)
                    self.assertIs(require_stream(stream, words), stream)
                    self.assertEqual(stream, before)

    def test_every_small_stream_is_returned(self):
        for words in (1, 2, 3):
            for stream in small_streams(words, (-1, 0, 1), 2):
                self.assertIs(require_stream(stream, words), stream)

    def test_lists_in_the_place_of_tuples_are_refused(self):
        for value in ([], [(0, 0)], [[0, 0]], ([0, 0],), ((0, 0), [0, 0]), ([],), ([(0, 0)],)):
            for words in (1, 2, 3):
                with self.subTest(value=value):
                    self.assert_refused(value, words)

    def test_messages_that_are_no_pairs_are_refused(self):
        for message in ((), (0,), (0, 0, 0), ((0, 0),), ((0, 0), (0, 0)), 0, None, "00", "ab", {0: 0, 1: 1}, True):
            for value in ((message,), ((0, 0), message), (message, (0, 0))):
                with self.subTest(value=value):
                    self.assert_refused(value, 2)

    def test_wrong_words_are_refused(self):
        for words in (1, 2, 3):
            for word in STRANGE + (words, words + 1, 3, DEEP):
                for value in (((word, 0),), ((0, 0), (word, 0)), ((word, 0), (0, 0))):
                    with self.subTest(words=words, value=value):
                        self.assert_refused(value, words)

    def test_the_last_word_depends_on_the_number_of_words(self):
        for words in (1, 2, 3):
            for word in range(words):
                require_stream(((word, 0),), words)
            self.assert_refused(((words, 0),), words)

    def test_wrong_values_are_refused(self):
        too_long = (MOST + 1, -MOST - 1, 10 ** 61, -10 ** 61, 10 ** 69, -10 ** 69)
        others = [value for value in STRANGE if value != -1]
        for inner in [*others, *too_long, DEEP]:
            for value in (((0, inner),), ((0, 0), (0, inner)), ((0, inner), (0, 0))):
                with self.subTest(value=value):
                    self.assert_refused(value, 1)

    def test_sixty_digits_are_good_and_sixty_one_are_not(self):
        for sign in (1, -1):
            self.assertEqual(len(str(MOST)), 60)
            require_stream(((0, sign * MOST),), 1)
            require_stream(((0, sign * 10 ** 59),), 1)
            self.assert_refused(((0, sign * (MOST + 1)),), 1)

    def test_what_is_no_tuple_of_messages_is_refused(self):
        for value in [value for value in STRANGE if value not in ((), ((0, 0),))] + [DEEP, (DEEP,), ((),), (((),),)]:
            with self.subTest(value=value):
                self.assert_refused(value, 2)

    def test_large_wrong_values_are_refused(self):
        for value in ([0] * 20000, (0,) * 20000, ((0, 0),) * 6000 + ((0, None),), {n: n for n in range(9000)}):
            self.assert_refused(value, 3)

    def test_arguments_by_name(self):
        self.assertEqual(require_stream(words=2, value=((1, 4),)), ((1, 4),))
        with self.assertRaises(NotAStream):
            require_stream(words=1, value=((1, 4),))


class NumberedTest(unittest.TestCase):
    def test_the_example(self):
        self.assertEqual(numbered(((0, 7), (1, -5), (0, 7))), ((0, 0), (1, 1), (0, 0)))

    def test_values_are_numbered_in_the_order_of_their_first_coming(self):
        for stream, wanted in (
            ((), ()),
            (((2, 9),), ((2, 0),)),
            (((0, 1), (0, 0)), ((0, 0), (0, 1))),
            (((0, 3), (1, 2), (2, 3), (0, 1), (1, 2)), ((0, 0), (1, 1), (2, 0), (0, 2), (1, 1))),
            (((0, MOST), (0, -MOST), (0, MOST)), ((0, 0), (0, 1), (0, 0))),
            (((0, -1), (0, -2), (0, -1), (0, -3)), ((0, 0), (0, 1), (0, 0), (0, 2))),
            (((0, 2 ** 61 - 1), (0, 0), (0, 2 ** 61)), ((0, 0), (0, 1), (0, 2))),
        ):
            with self.subTest(stream=stream):
                self.assertEqual(kinds(numbered(stream)), kinds(wanted))

    def test_is_numbered(self):
        for stream, wanted in (
            ((), True),
            (((1, 0),), True),
            (((1, 1),), False),
            (((1, -1),), False),
            (((0, 0), (0, 0), (1, 1), (0, 0), (2, 2), (0, 1)), True),
            (((0, 0), (0, 2)), False),
            (((0, 1), (0, 0)), False),
            (((0, 0), (0, 2), (0, 1)), False),
            (((0, 0), (0, MOST)), False),
        ):
            with self.subTest(stream=stream):
                self.assertIs(is_numbered(stream), wanted)

    def test_each_stream_is_alike_to_exactly_one_numbered_stream(self):
        streams = list(small_streams(2, (-4, 0, 1, 2), 3))
        low = [stream for stream in streams if is_numbered(stream)]
        for stream in streams:
            alike = [other for other in low if are_alike(stream, other)]
            self.assertEqual(alike, [numbered(stream)])
            self.assertIs(is_numbered(stream), stream == numbered(stream))

    def test_long_streams(self):
        stream = tuple((n % 3, (n * 7919) % 5000 - 2500) for n in range(10000))
        low = numbered(stream)
        self.assertEqual(low, tuple((n % 3, n % 5000) for n in range(10000)))
        self.assertTrue(is_numbered(low))
        self.assertFalse(is_numbered(stream))
        self.assertTrue(are_alike(stream, low))
        self.assertFalse(are_alike(stream[:-1] + ((stream[-1][0], 9999),), low))

    def test_renaming_values_one_to_one_changes_no_answer(self):
        names = {0: 5, 1: -MOST, 2: 0}
        streams = list(small_streams(2, (0, 1, 2), 3))
        for one in streams:
            renamed = tuple((word, names[value]) for word, value in one)
            self.assertEqual(numbered(renamed), numbered(one))
            for two in streams[::7]:
                self.assertIs(are_alike(renamed, two), are_alike(one, two))
                self.assertIs(are_alike(two, renamed), are_alike(two, one))

    def test_streams_are_not_modified(self):
        stream = ((0, 7), (1, -5), (0, 7))
        for call in (numbered, is_numbered):
            call(stream)
            self.assertEqual(call(stream=stream), call(stream))
        self.assertEqual(stream, ((0, 7), (1, -5), (0, 7)))


class AreAlikeTest(unittest.TestCase):
    def test_the_examples(self):
        self.assertIs(are_alike(((0, 7), (0, 7)), ((0, 1), (0, 1))), True)
        self.assertIs(are_alike(((0, 7), (0, 7)), ((0, 1), (0, 2))), False)

    def test_ordinary_streams_and_edges(self):
        for one, two, wanted in (
            ((), (), True),
            ((), ((0, 0),), False),
            (((0, 1),), ((0, 1), (0, 1)), False),
            (((0, 5),), ((0, 9),), True),
            (((0, 5),), ((1, 5),), False),
            (((0, 5), (1, 6)), ((0, 6), (1, 5)), True),
            (((0, 5), (1, 6)), ((1, 5), (0, 6)), False),
            (((0, 1), (0, 2), (0, 1)), ((0, 1), (0, 2), (0, 2)), False),
            (((0, 1), (0, 2), (0, 1)), ((0, 8), (0, 1), (0, 8)), True),
            (((0, 1), (0, 1)), ((0, 1), (0, 2)), False),
            (((0, 1), (0, 2)), ((0, 1), (0, 1)), False),
            (((0, MOST), (0, -MOST)), ((0, -MOST), (0, MOST)), True),
        ):
            with self.subTest(one=one, two=two):
                self.assertIs(are_alike(one, two), wanted)
                self.assertIs(are_alike(two=two, one=one), wanted)
                self.assertIs(are_alike(two, one), wanted)

    def test_it_is_what_the_definition_says(self):
        streams = list(small_streams(2, (0, 1, 5), 3))
        for one in streams[::3]:
            for two in streams:
                places = range(len(one))
                wanted = [word for word, _ in one] == [word for word, _ in two] and all(
                    (one[i][1] == one[j][1]) == (two[i][1] == two[j][1]) for i in places for j in places
                )
                self.assertIs(are_alike(one, two), wanted)


class ExchangedTest(unittest.TestCase):
    def test_ordinary_streams_and_edges(self):
        stream = ((0, 7), (1, -5), (2, 7), (0, 3))
        for one, two, wanted in (
            (7, -5, ((0, -5), (1, 7), (2, -5), (0, 3))),
            (-5, 7, ((0, -5), (1, 7), (2, -5), (0, 3))),
            (7, 9, ((0, 9), (1, -5), (2, 9), (0, 3))),
            (9, 3, ((0, 7), (1, -5), (2, 7), (0, 9))),
            (0, MOST, stream),
            (7, 7, stream),
            (9, 9, stream),
        ):
            with self.subTest(one=one, two=two):
                self.assertEqual(kinds(exchanged(stream, one, two)), kinds(wanted))
                self.assertEqual(exchanged(two=two, stream=stream, one=one), wanted)
        self.assertEqual(stream, ((0, 7), (1, -5), (2, 7), (0, 3)))

    def test_the_empty_stream(self):
        self.assertEqual(exchanged((), 1, 2), ())

    def test_words_are_not_exchanged(self):
        self.assertEqual(exchanged(((0, 1), (1, 0)), 0, 1), ((0, 0), (1, 1)))

    def test_twice_gives_the_stream_again(self):
        for stream in small_streams(2, (0, 1, 2), 3):
            for one, two in product((0, 1, 9), repeat=2):
                changed = exchanged(stream, one, two)
                self.assertEqual(exchanged(changed, one, two), stream)
                self.assertTrue(are_alike(changed, stream))


if __name__ == "__main__":
    unittest.main()
