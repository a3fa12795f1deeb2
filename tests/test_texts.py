import random
import re
import unittest
from collections import Counter

from samples import (
    MOST, alike_pairs, built, even_pairs, kinds, look, once, some_stream, some_watchers, turning, wide,
)
from seenbefore.errors import ParseError
from seenbefore.texts import format_stream, format_watcher, parse_stream, parse_watcher
from seenbefore.watchers import Watcher

ONCE = "words 1\nstate 0 0\nstate 0 1\nstate 1 0\nrule 0 0 new 1 value\nrule 1 0 0 2\nrule 1 0 new 1 value\n"


def many_watchers(seed, many):
    pairs = alike_pairs(seed, many, 5) + even_pairs(seed, many)
    return some_watchers(seed, many) + [two for _, two in pairs] + [once(), turning(), wide(), Watcher(2)]


class FormatWatcherTest(unittest.TestCase):
    def assert_text(self, watcher, wanted):
        before = look(watcher)
        self.assertEqual(format_watcher(watcher), wanted)
        self.assertEqual(look(watcher), before)

    def test_the_example(self):
        self.assert_text(once(), ONCE)

    def test_without_rules(self):
        for words in (1, 2, 3):
            self.assert_text(Watcher(words), f"words {words}\nstate 0 0\n")
        self.assert_text(wide(), "words 3\nstate 0 0\nstate 1 1\nstate 2 2\nstate 3 3\n")
        one = Watcher(1)
        one.set_verdict(0, 3)
        self.assert_text(one, "words 1\nstate 3 0\n")

    def test_rules_added_in_any_order(self):
        rules = [
            (1, 1, "new", 1, (0, 1, "value")), (0, 1, "new", 0, ()), (1, 1, 2, 2, (1,)), (2, 0, 0, 0, ()),
            (1, 0, "new", 2, ("value",)), (1, 0, 0, 1, (2, 1, 0)), (0, 0, "new", 0, ()), (1, 1, 0, 0, ()),
        ]
        text = ("words 2\nstate 0 0\nstate 0 3\nstate 2 1\nrule 0 0 new 0\nrule 0 1 new 0\nrule 1 0 0 1 2 1 0\n"
                "rule 1 0 new 2 value\nrule 1 1 0 0\nrule 1 1 2 2 1\nrule 1 1 new 1 0 1 value\nrule 2 0 0 0\n")
        chooser = random.Random(701)
        for _ in range(10):
            chooser.shuffle(rules)
            self.assert_text(built(2, [(0, 3), (2, 1)], rules), text)

    def test_lines_of_watchers_by_chance(self):
        for watcher in many_watchers(702, 20):
            lines = [["words", watcher.words]]
            lines += [["state", *state] for state in zip(watcher.verdicts(), watcher.held_counts())]
            lines += [["rule", *rule, target, *sources] for rule, (target, sources) in watcher.rules().items()]
            self.assert_text(watcher, "".join(" ".join(map(str, line)) + "\n" for line in lines))

    def test_edits_in_place(self):
        one = once()
        one.remove_rule(1, 0, "new")
        self.assert_text(one, ONCE[:ONCE.index("rule 1 0 new")])
        one.add_rule(1, 0, "new", 1, ("value",))
        self.assert_text(one, ONCE)

    def test_argument_by_name(self):
        self.assertEqual(format_watcher(watcher=once()), ONCE)


class FormatStreamTest(unittest.TestCase):
    def test_streams(self):
        for stream, wanted in (
            ((), "-"), (((0, 7),), "0:7"), (((0, 7), (1, -5)), "0:7 1:-5"), (((2, 0), (0, 0), (1, 0)), "2:0 0:0 1:0"),
            (((0, MOST),), "0:" + "9" * 60), (((0, -MOST), (1, 10 ** 59)), "0:-" + "9" * 60 + " 1:1" + "0" * 59),
        ):
            self.assertEqual(format_stream(stream), wanted)
            self.assertEqual(format_stream(stream=stream), wanted)

    def test_long_streams(self):
        stream = tuple((n % 3, n * n - 50) for n in range(2000))
        self.assertEqual(format_stream(stream), " ".join(f"{n % 3}:{n * n - 50}" for n in range(2000)))


RULE = re.compile(r"rule ([0-5]) ([0-2]) (new|[0-2]) ([0-5])((?: (?:value|[0-2]))*)")


class Lines:
    """Which line fits the lines before it, as the document tells it."""

    def __init__(self):
        self.words, self.held, self.rules = None, [], []

    def fits(self, line):
        if self.words is None:
            self.words = int(line[6]) if re.fullmatch(r"words [1-3]", line) else None
            return self.words is not None
        if re.fullmatch(r"state [0-3] [0-3]", line):
            self.held.append(int(line[8]))
            return not self.rules and len(self.held) <= 6 and self.held[0] == 0
        found = RULE.fullmatch(line)
        return found is not None and self.fits_rule(*found.groups())

    def fits_rule(self, state, word, test, target, sources):
        state, word, target, sources = int(state), int(word), int(target), sources.split()
        if max(state, target) >= len(self.held) or word >= self.words:
            return False
        places = [str(place) for place in range(self.held[state])]
        if test not in places + ["new"] or not set(sources) <= set(places + ["value"] * (test == "new")):
            return False
        # "new" comes after the places in the order of their signs, too.
        self.rules.append((state, word, test))
        in_order = self.rules == sorted(set(self.rules))
        return in_order and len(sources) == len(set(sources)) == self.held[target]


def told_line(text):
    """The index of the line that a ParseError should tell, or None."""
    *lines, rest = text.split("\n")
    before = Lines()
    for index, line in enumerate(lines):
        if not before.fits(line):
            return index
    return len(lines) if rest or not before.held else None


class ParseWatcherTest(unittest.TestCase):
    def assert_read(self, text, wanted):
        found = parse_watcher(text)
        self.assertEqual(kinds(look(found)), kinds(look(wanted)))
        self.assertEqual(found, wanted)
        self.assertEqual(format_watcher(found), text)
        self.assertIsNone(told_line(text))

    def assert_wrong(self, text, line):
        with self.assertRaises(ParseError) as caught:
            parse_watcher(text)
        self.assertEqual(kinds(caught.exception.line), kinds(line), text)
        self.assertEqual(told_line(text), line, text)

    def assert_told(self, text):
        line = told_line(text)
        if line is None:
            self.assertEqual(format_watcher(parse_watcher(text)), text)
        else:
            self.assert_wrong(text, line)
        return line

    def test_watchers_are_read_back(self):
        self.assert_read(ONCE, once())
        for watcher in many_watchers(711, 40):
            self.assert_read(format_watcher(watcher), watcher)

    def test_what_is_read_lives_by_itself(self):
        one, two = parse_watcher(ONCE), parse_watcher(ONCE)
        one.set_verdict(0, 3)
        one.remove_rule(0, 0, "new")
        one.add_state(0, 3)
        self.assertEqual(look(two), look(once()))
        self.assertEqual(look(parse_watcher(text=ONCE)), look(once()))

    def test_all_limits(self):
        text = "words 3\nstate 3 0\n" + "state 3 3\n" * 5
        largest = built(3, [(3, 3)] * 5, [])
        largest.set_verdict(0, 3)
        self.assert_read(text, largest)
        self.assert_wrong(text + "state 3 3\n", 7)
        self.assert_wrong(text + "state 3 3\nrule\n", 7)
        self.assert_wrong(text + "state 3 3", 7)

    def test_texts_that_end_too_early(self):
        for text, line in (("", 0), ("\n", 0), ("words 1", 0), ("words 1\n", 1), ("words 1\nstate 0 0", 1), ("w", 0),
                           ("words 1\ns", 1), ("words 1\nstate 0 0\nstate", 2), (ONCE[:-1], 6), (ONCE[:-3], 6)):
            self.assert_wrong(text, line)
        for end in range(len(ONCE)):
            text = ONCE[:end]
            if text.endswith("\n") and text.count("\n") > 1:
                self.assertIsNone(self.assert_told(text))
            else:
                self.assert_wrong(text, text.count("\n"))

    def test_something_behind_the_last_line_end(self):
        for more in (" ", "x", "rule 2 0 new 0", "-", "\n", "\n\n", "words 1\n", "state 0 0\n", "rule 2 0 new 0\nx"):
            self.assert_wrong(ONCE + more, 8 if more == "rule 2 0 new 0\nx" else 7)
        self.assertIsNone(self.assert_told(ONCE + "rule 2 0 new 0\n"))

    def test_first_lines(self):
        for line in (
            "words 0", "words 4", "words 01", "words +1", "words -1", "words 1 ", " words 1", "words  1", "words",
            "words 1 1", "word 1", "Words 1", "words\t1", "words 1\r", "words " + "1" * 5000, "state 0 0", "",
            "rule 0 0 new 0", "words one", "words 1.0", "words 1_", "words \u0661", "words \u00b9",
        ):
            self.assert_wrong(ONCE.replace("words 1", line), 0)

    def test_states(self):
        for line in (
            "state 4 0", "state 0 4", "state -1 0", "state 0 -1", "state 00 0", "state 0 00", "state 0", "state",
            "state 0 0 0", "state  0 0", "state 0  0", "state 0 0 ", " state 0 0", "State 0 0", "state +0 0",
            "state -0 0", "state 0 -0", "state new 0", "state 0 value", "", "words 1", "state 0 0\r", "state 0\t0",
            "state 0 " + "0" * 5000, "state " + "9" * 5000 + " 0", "state 0,0", "state \u0660 0", "state 0 \u00b2",
        ):
            self.assert_wrong(f"words 1\n{line}\n", 1)
            self.assert_wrong(f"words 1\nstate 0 0\n{line}\n", 2)
            self.assert_wrong(f"words 1\nstate 0 0\nstate 0 0\n{line}\nrule 0 0 new 1\n", 3)
        for held in "123":
            self.assert_wrong(f"words 1\nstate 0 {held}\n", 1)
        self.assert_wrong("words 1\nrule 0 0 new 0\n", 1)

    def test_a_state_behind_a_rule(self):
        self.assert_wrong(ONCE + "state 0 0\n", 7)
        self.assert_wrong("words 1\nstate 0 0\nrule 0 0 new 0\nstate 0 0\n", 3)

    def test_rules(self):
        beginning = "words 2\nstate 0 0\nstate 1 2\nstate 0 1\n"
        for line in (
            "rule 1 0 0 1 1 0", "rule 1 1 new 1 value 0", "rule 1 0 1 2 0", "rule 2 1 0 0", "rule 0 0 new 2 value",
            "rule 1 1 new 2 value", "rule 0 1 new 0",
        ):
            self.assertIsNone(self.assert_told(beginning + line + "\n"))
        for line in (
            "rule 3 0 new 0", "rule 0 0 new 3", "rule -1 0 new 0", "rule 0 -1 new 0", "rule 0 2 new 0", "rule 0 0 0 0",
            "rule 1 0 2 0", "rule 1 0 -1 0", "rule 1 0 value 0", "rule 1 0 New 0", "rule 1 0 new 2",
            "rule 1 0 new 0 0", "rule 1 0 new 1 0 0", "rule 1 0 new 1 0 2", "rule 1 0 0 1 0 value",
            "rule 1 0 new 1 0 new", "rule 1 0 new 1 0", "rule 1 0 new 1 0 1 value", "rule 1 0 new", "rule 1 0",
            "rule 1", "rule", "rule 1 0 new 1 0  1", "rule 1 0 new 1  0 1", "rule 1 0 new 1 0 1 ",
            " rule 1 0 new 1 0 1", "rule  1 0 new 1 0 1", "rule 0 0 new 0 ", "rule 1 0 new 1 00 1",
            "rule 1 0 new 1 +0 1", "rule 1 0 new 1 -0 1", "rule 01 0 new 1 0 1", "rule 1 0 new 01 0 1",
            "Rule 1 0 new 1 0 1", "rules 1 0 new 1 0 1", "rule 1 0 new 1 0 1\r", "rule 1 0 new 1 0,1",
            "rule new 0 new 0", "rule 1 value new 0", "rule 1 0 new value", "rule 1 0 new 1 value value",
            "1 0 new 1 0 1", "rule 1 0 00 0", "rule 1 0 " + "0" * 5000 + " 0", "rule " + "1" * 6000 + " 0 new 0",
            "rule 1 0 new 1 0 " + "1" * 5000, "rule 6 0 new 0", "rule 9 9 9 9", "rule 1 0 new 1 \u0660 1",
            "rule 2 0 \u0660 0", "rule True 0 new 0", "", "rule 1 0 None 0", "rule 0 0 new 0 " * 3,
            "rule 1 0 new 1 0 1" + " 0" * 9000,
        ):
            self.assert_wrong(f"{beginning}{line}\n", 4)
            self.assert_wrong(f"{beginning}{line}\nx\n\n", 4)
            self.assert_wrong(f"{beginning}rule 0 0 new 0\n{line}\n", 5)

    def test_rules_out_of_order_and_doubled(self):
        *lines, _ = ONCE.split("\n")
        for at in range(len(lines)):
            doubled = lines[:at + 1] + lines[at:]
            line = self.assert_told("\n".join(doubled) + "\n")
            if at not in (1, 2, 3):
                self.assertEqual(line, at + 1)
        for at in range(4, 6):
            exchanged = lines[:at] + [lines[at + 1], lines[at]] + lines[at + 2:]
            self.assert_wrong("\n".join(exchanged) + "\n", at + 1)

    def test_other_line_ends(self):
        for end in ("\r\n", "\r", "\x0b", "\x0c", "\x1c", "\x85", "\u2028", " \n", "\n ", "\n\n"):
            text = ONCE.replace("\n", end)
            self.assert_wrong(text, 1 if end in ("\n ", "\n\n") else 0)

    def test_changed_texts(self):
        chooser = random.Random(721)
        found = Counter()
        signs = "0123456789 -+:\n\tnewvalustrd\r"
        for watcher in many_watchers(722, 30):
            text = format_watcher(watcher)
            lines = text.split("\n")[:-1]
            for _ in range(30):
                at = chooser.randrange(len(lines))
                place = chooser.randrange(len(text) + 1)
                other = chooser.choice((
                    "\n".join(lines[:at] + lines[at + 1:]) + "\n",
                    "\n".join(lines[:at] + [lines[at]] + lines[at:]) + "\n",
                    "\n".join(lines[:at] + lines[at:at + 2][::-1] + lines[at + 2:]) + "\n",
                    "\n".join(lines[:at] + [changed_line(chooser, lines[at])] + lines[at + 1:]) + "\n",
                    text[:place],
                    text[:place] + chooser.choice(signs) + text[place:],
                    text[:place] + text[place + 1:],
                    text[:place] + chooser.choice(signs) + text[place + 1:],
                ))
                line = self.assert_told(other)
                found["right" if line is None else "last" if line == other.count("\n") else "line"] += 1
        self.assertGreater(min(found.values()), 100)


def changed_line(chooser, line):
    """The line with one of its parts exchanged, left out, or put in."""
    parts = line.split(" ")
    at = chooser.randrange(len(parts) + 1)
    part = chooser.choice([*"01236", "new", "value", "00", "-0", "+1", "-1", "", "rule", "state", "9" * 5000])
    return " ".join(chooser.choice((parts[:at] + [part] + parts[at + 1:], parts[:at] + parts[at + 1:],
                                    parts[:at] + [part] + parts[at:])))


class ParseStreamTest(unittest.TestCase):
    def assert_read(self, text, words, wanted):
        self.assertEqual(kinds(parse_stream(text, words)), kinds(wanted))
        self.assertEqual(format_stream(wanted), text)

    def assert_wrong(self, text, words):
        with self.assertRaises(ParseError) as caught:
            parse_stream(text, words)
        self.assertEqual(kinds(caught.exception.line), kinds(0))

    def test_streams_are_read_back(self):
        chooser = random.Random(731)
        for words in (1, 2, 3):
            self.assert_read("-", words, ())
            for _ in range(30):
                values = (0, 1, -1, 10, MOST, -MOST, chooser.randrange(-10 ** 30, 10 ** 30))
                stream = some_stream(chooser, words, values, chooser.randrange(1, 12))
                self.assert_read(format_stream(stream), words, stream)
        self.assert_read("0:7 1:-5", 2, ((0, 7), (1, -5)))

    def test_long_texts(self):
        stream = tuple((0, n) for n in range(2500))
        self.assert_read(format_stream(stream), 1, stream)
        for text in ("0:" + "1" * 5000, "0:" + "0" * 5000, "0:-" + "9" * 19000, "1" * 5000 + ":1", "0:1 " * 5000):
            self.assert_wrong(text, 3)

    def test_words_out_of_range(self):
        for words in (1, 2, 3):
            self.assert_read("0:7", words, ((0, 7),))
            self.assert_read(f"{words - 1}:7", words, ((words - 1, 7),))
            for word in range(words, 12):
                self.assert_wrong(f"{word}:7", words)
                self.assert_wrong(f"0:7 {word}:7", words)
            self.assert_wrong("-1:7", words)

    def test_values(self):
        for value in ("0", "1", "-1", "10", "-10", "9" * 60, "-" + "9" * 60, "1" + "0" * 59):
            self.assert_read(f"0:{value}", 1, ((0, int(value)),))
        for value in (
            "", "-", "+1", "-0", "00", "01", "-01", "--1", "1-", "1 ", " 1", "1.0", "1e3", "1_0", "0x1", "\u0661",
            "\u00b2", "9" * 61, "-" + "9" * 61, "1" + "0" * 60, "0" * 61, "None", "new", "1:1", ":1", "\t1", "1\n",
        ):
            self.assert_wrong(f"0:{value}", 1)
            self.assert_wrong(f"0:1 0:{value}", 1)
            self.assert_wrong(f"0:{value} 0:1", 1)

    def test_other_texts(self):
        for text in (
            "", " ", "- ", " -", "--", "-\n", "\n", "0", ":", "0:", ":0", "0:7 ", " 0:7", "0:7  0:7", "0:7\n",
            "0:7\n0:7", "0:7\t0:7", "0:7,0:7", "- 0:7", "0:7 -", "00:7", "+0:7", "-0:7", "0 :7", "0: 7", "0;7",
            "\u0660:7", "new:7", "0:7\r", "(0, 7)", "0:7:", "::",
        ):
            for words in (1, 2, 3):
                self.assert_wrong(text, words)

    def test_changed_texts(self):
        chooser = random.Random(732)
        found = Counter()
        for words in (1, 2, 3):
            message = r"[0-%d]:(0|-?[1-9][0-9]{0,59})" % (words - 1)
            for _ in range(400):
                text = format_stream(some_stream(chooser, words, (0, 5, -5, 12, MOST), chooser.randrange(5)))
                at = chooser.randrange(len(text) + 1)
                text = text[:at] + chooser.choice(["", *"0123456789 -+:\n"]) + text[at + chooser.randrange(2):]
                right = text == "-" or re.fullmatch(f"{message}( {message})*", text) is not None
                found[right] += 1
                if right:
                    self.assertEqual(format_stream(parse_stream(text, words)), text)
                else:
                    self.assert_wrong(text, words)
        self.assertGreater(min(found.values()), 100)

    def test_arguments_by_name(self):
        self.assertEqual(parse_stream(words=2, text="1:7"), ((1, 7),))
        with self.assertRaises(ParseError):
            parse_stream(words=1, text="1:7")


if __name__ == "__main__":
    unittest.main()
