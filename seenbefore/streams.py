"""Streams: tuples of messages, each a pair of a word and a value."""

from seenbefore.errors import NotAStream
from seenbefore.integers import is_between


def require_stream(value, words):
    """Return the value if it is a stream for so many words, else raise NotAStream."""
    if not is_stream(value, words):
        raise NotAStream(value)
    return value


def is_stream(value, words):
    """Return whether any value is a stream for so many words."""
    if not isinstance(value, tuple):
        return False
    for message in value:
        if not is_message(message, words):
            return False
    return True


def is_message(message, words):
    """Return whether any value is a message for so many words."""
    if not isinstance(message, tuple) or len(message) != 2:
        return False
    word, value = message
    return is_between(word, 0, words - 1) and is_message_value(value)


def is_message_value(value):
    """Return whether any value is an integer of at most 60 digits."""
    most = 10 ** 60 - 1
    return is_between(value, -most, most)


def numbered(stream):
    """Return the alike stream whose values are 0, 1, 2, .. in the order of their first coming."""
    numbers = {}
    messages = []
    for word, value in stream:
        if value not in numbers:
            numbers[value] = len(numbers)
        messages.append((word, numbers[value]))
    return tuple(messages)


def is_numbered(stream):
    """Return whether the stream's values are 0, 1, 2, .. in the order of their first coming."""
    return stream == numbered(stream)


def are_alike(one, two):
    """Return whether two streams have the same words and equal values at the same pairs of positions."""
    # Each stream is alike to exactly one numbered stream.
    return numbered(one) == numbered(two)


def exchanged(stream, one, two):
    """Return the stream with the values one and two exchanged."""
    partners = {one: two, two: one}
    return tuple([(word, partners.get(value, value)) for word, value in stream])
