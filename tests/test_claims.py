import copy
import inspect
import random
import unittest
from itertools import permutations

from samples import (
    DEEP, STRANGE, alike_pairs, built, changed, in_two_orders, kinds, ladder, look, once, some_pairs, some_stream,
    turning, wide,
)
from seenbefore.claims import decide, require_claim
from seenbefore.errors import InvalidClaim, Unpaired
from seenbefore.runs import verdict_of
from seenbefore.situations import situation_behind
from seenbefore.streams import require_stream
from seenbefore.watchers import Watcher
from told import (
    START, all_situations, claims_about, is_told_claim, some_claims, told_closure, told_comparison,
    told_continuation, told_distance, told_least, told_parts, told_reached, told_run, told_verdict, verdicts_of,
)


def holding(*counts, words=1):
    """A watcher without rules whose states after state 0 hold so many values."""
    return built(words, [(0, held) for held in counts], [])


class ClaimCase(unittest.TestCase):
    def assert_claim(self, pair, claim):
        before = [look(watcher) for watcher in pair]
        self.assertIsNone(require_claim(pair, claim))
        self.assertEqual([look(watcher) for watcher in pair], before)

    def assert_no_claim(self, pair, value):
        before = [look(watcher) for watcher in pair]
        handed = kinds(copy.deepcopy(value))
        with self.assertRaises(InvalidClaim):
            require_claim(pair, value)
        if pair[0].words == pair[1].words:
            with self.assertRaises(InvalidClaim):
                decide(pair, value)
        self.assertEqual(kinds(value), handed)
        self.assertEqual([look(watcher) for watcher in pair], before)


class RequireClaimTest(ClaimCase):
    def test_every_claim_there_is(self):
        one = turning()
        for pair in [(one, one), (once(), turning()), (wide(), once()), (wide(), wide())] + some_pairs(101, 20, 4):
            for claim in claims_about(pair):
                self.assert_claim(pair, claim)
            for situation in all_situations(pair):
                self.assert_claim(pair, ("alike", *situation))

    def test_values_that_are_no_claims(self):
        pair = (wide(), wide())
        for value in STRANGE + (DEEP, ("alike", DEEP), (DEEP,), ("alike", 0, 0, DEEP), ("never", DEEP, 0)):
            with self.subTest(value=value):
                self.assert_no_claim(pair, value)

    def test_a_part_of_another_kind(self):
        pair = (wide(), wide())
        claims = [
            ("alike",), ("alike", 2, 3, ((0, 1), (1, 2))), ("together", 1, 0), ("unneeded", "A", 2, 1),
            ("swap", "B", 3, 0, 1), ("never", "A", 1), ("least", "B"),
        ]
        for claim in claims:
            self.assert_claim(pair, claim)
            for at in range(len(claim)):
                for value in STRANGE + (DEEP,):
                    wrong = claim[:at] + (value,) + claim[at + 1:]
                    if not is_told_claim(pair, wrong):
                        self.assert_no_claim(pair, wrong)
                self.assert_no_claim(pair, claim[:at] + (-1,) + claim[at + 1:])
                self.assert_no_claim(pair, claim[:at] + (True,) + claim[at + 1:])
                self.assert_no_claim(pair, claim[:at] + claim[at + 1:])
                self.assert_no_claim(pair, claim[:at] + (0,) + claim[at:])
            self.assert_no_claim(pair, claim + (0,))
            self.assert_no_claim(pair, claim + ((),))
            self.assert_no_claim(pair, list(claim))
            self.assert_no_claim(pair, (claim,))
            self.assert_no_claim(pair, (claim[0].upper(), *claim[1:]))
            self.assert_no_claim(pair, (claim[0] + " ", *claim[1:]))

    def test_verdicts_are_from_0_to_3(self):
        pair = (once(), once())
        for verdict in range(4):
            self.assert_claim(pair, ("never", "A", verdict))
            self.assert_claim(pair, ("together", 0, verdict))
            self.assert_claim(pair, ("together", verdict, 3))
        for verdict in (4, -1, 10 ** 69, True, False, None, "0", (0,)):
            self.assert_no_claim(pair, ("never", "A", verdict))
            self.assert_no_claim(pair, ("together", 0, verdict))
            self.assert_no_claim(pair, ("together", verdict, 0))

    def test_sides(self):
        pair = (once(), once())
        for parts in (("never", 0), ("least",), ("unneeded", 1, 0)):
            for side in ("A", "B"):
                self.assert_claim(pair, (parts[0], side, *parts[1:]))
            for side in ("a", "b", "C", "", "AB", "A ", 0, 1, None, ("A",), ["A"], True):
                self.assert_no_claim(pair, (parts[0], side, *parts[1:]))

    def test_states_and_places_of_the_side_that_is_named(self):
        pair = (holding(1), holding(2, 3))
        for side, state, held in (("A", 0, 0), ("A", 1, 1), ("B", 0, 0), ("B", 1, 2), ("B", 2, 3)):
            for i in range(-1, 5):
                unneeded = ("unneeded", side, state, i)
                self.assertEqual(0 <= i < held, is_told_claim(pair, unneeded))
                (self.assert_claim if 0 <= i < held else self.assert_no_claim)(pair, unneeded)
                for j in range(-1, 5):
                    right = 0 <= i < j < held
                    (self.assert_claim if right else self.assert_no_claim)(pair, ("swap", side, state, i, j))
        for side, state in (("A", 2), ("A", 3), ("B", 3), ("A", -1), ("B", -1), ("B", True), ("B", False)):
            self.assert_no_claim(pair, ("unneeded", side, state, 0))
            self.assert_no_claim(pair, ("swap", side, state, 0, 1))

    def test_places_of_a_swap(self):
        pair = (wide(), wide())
        self.assert_claim(pair, ("swap", "A", 3, 0, 2))
        for i, j in ((0, 0), (1, 0), (2, 0), (2, 2), (0, 3), (-1, 0), (False, 1), (0, True), (0, (1,)), ("0", "1")):
            self.assert_no_claim(pair, ("swap", "A", 3, i, j))
        self.assert_no_claim(pair, ("swap", "A", 3, (0, 1)))
        self.assert_no_claim(pair, ("swap", "A", 3, 0))

    def test_situations_of_a_claim_alike(self):
        pair = (holding(1, 3, words=1), holding(3, 2, words=1))
        for p, q, pairs in ((0, 0, ()), (1, 1, ()), (1, 1, ((0, 2),)), (2, 1, ((0, 2), (1, 0), (2, 1))),
                            (2, 2, ((0, 1), (2, 0))), (2, 2, ((1, 1),))):
            self.assert_claim(pair, ("alike", p, q, pairs))
        for p, q, pairs in (
            (0, 0, ((0, 0),)), (1, 1, ((1, 0),)), (1, 1, ((0, 3),)), (3, 0, ()), (0, 3, ()), (-1, 0, ()),
            (0, -1, ()), (2, 1, ((1, 0), (0, 1))), (2, 1, ((0, 1), (0, 2))), (2, 1, ((0, 1), (1, 1))),
            (2, 1, ((0, 1), (0, 1))), (2, 1, ((0, 1), (1, 0), (2, 1))), (2, 1, ((-1, 0),)), (2, 1, ((0, -1),)),
            (2, 1, [(0, 1)]), (2, 1, ([0, 1],)), (2, 1, {0: 1}), (2, 1, None), (2, 1, ((0, True),)),
            (2, 1, ((False, 0),)), (2, 1, ((0,),)), (2, 1, ((0, 1, 2),)), (2, 1, (0, 1)), (2, 1, ((0, 1), ())),
            (True, 1, ()), (1, True, ()), (2, 2, ((0, 0), (1, 1), (2, 2))), (2, 1, "()"), (2, 1, ((0, None),)),
            (None, 0, ()), (0, "0", ()), ((0,), 0, ()),
        ):
            with self.subTest(p=p, q=q, pairs=pairs):
                self.assert_no_claim(pair, ("alike", p, q, pairs))
        self.assert_no_claim(pair, ("alike", (1, 1, ())))
        self.assert_no_claim(pair, ("alike", 1, 1))
        self.assert_no_claim(pair, ("alike", ()))

    def test_it_is_the_same_question_as_whether_it_is_one_of_all_claims(self):
        chooser = random.Random(102)
        many = 0
        for number, pair in enumerate([(wide(), wide())] + some_pairs(103, 30, 3)):
            for claim in some_claims(number, pair, 8):
                for _ in range(6):
                    value = changed(chooser, claim)
                    right = is_told_claim(pair, value)
                    many += right
                    with self.subTest(value=value):
                        (self.assert_claim if right else self.assert_no_claim)(pair, value)
        self.assertGreater(many, 50)

    def test_it_does_not_look_at_the_numbers_of_words(self):
        pair = (once(), wide())
        self.assert_claim(pair, ("alike", 1, 3, ((0, 2),)))
        self.assert_claim(pair, ("least", "B"))
        self.assert_no_claim(pair, ("alike", 3, 1, ()))

    def test_a_claim_is_accepted_from_when_its_state_is_there(self):
        pair = (once(), once())
        claims = [("unneeded", "B", 3, 1), ("swap", "B", 3, 0, 1), ("alike", 1, 3, ((0, 1),))]
        for claim in claims:
            self.assert_no_claim(pair, claim)
        pair[0].add_state(0, 2)
        for claim in claims:
            self.assert_no_claim(pair, claim)
        pair[1].add_state(0, 2)
        for claim in claims:
            self.assert_claim(pair, claim)
            self.assertEqual(decide(pair, claim)[1], claim)

    def test_arguments_by_name(self):
        self.assertIsNone(require_claim(claim=("alike",), pair=(once(), once())))
        with self.assertRaises(InvalidClaim):
            require_claim(claim=None, pair=(once(), once()))


class DecideCase(ClaimCase):
    def decided(self, pair, claim):
        """The certificate, which is new each time, of tuples alone, and changes nothing."""
        before = [look(watcher) for watcher in pair]
        handed = copy.deepcopy(claim)
        certificate = decide(pair, claim)
        self.assertEqual(kinds(decide(pair, claim)), kinds(certificate))
        self.assertEqual(kinds(claim), kinds(handed))
        self.assertEqual([look(watcher) for watcher in pair], before)
        self.assertEqual(kinds(certificate[1]), kinds(claim))
        self.assertIn(certificate[0], ("shown", "broken"))
        self.assertEqual((type(certificate), len(certificate)), (tuple, 3))
        return certificate

    def assert_table(self, pair, claim, answer, table):
        self.assertEqual(kinds(self.decided(pair, claim)), kinds((answer, claim, table)))

    def assert_stream(self, pair, claim, answer, length):
        """The certificate is a stream of this length, which brings the verdicts that are looked for."""
        found, _, stream = self.decided(pair, claim)
        self.assertEqual(found, answer)
        self.assertEqual(len(require_stream(stream, pair[0].words)), length)
        if claim[0] == "never":
            self.assertEqual(verdict_of(pair["AB".index(claim[1])], stream), claim[2])
        else:
            watchers, situation, is_sought = told_comparison(pair, claim)
            self.assertTrue(is_sought(told_continuation(watchers, situation, stream)))

    def assert_told(self, pair, claim):
        """The certificate is just what the document tells of one for a claim about situations."""
        answers = ("shown", "broken") if claim[0] == "together" else ("broken", "shown")
        length = told_distance(pair, claim)
        if length is None:
            watchers, situation, _ = told_comparison(pair, claim)
            self.assert_table(pair, claim, answers[1], told_closure(watchers, situation))
        else:
            self.assert_stream(pair, claim, answers[0], length)


class DecideAlikeTest(DecideCase):
    def test_the_examples(self):
        one = once()
        self.assertEqual(self.decided((one, one), ("unneeded", "A", 1, 0))[0], "broken")
        self.assertEqual(self.decided((one, Watcher(1)), ("alike",))[0], "broken")

    def test_a_watcher_and_itself_and_its_twin(self):
        one = once()
        for pair in ((one, one), (one, one.twin()), (once(), once())):
            self.assert_table(pair, ("alike",), "shown", (START, (1, 1, ((0, 0),)), (2, 2, ())))

    def test_just_the_situations_that_steps_reach(self):
        one, more = once(), once()
        more.add_state(3, 3)
        more.add_rule(3, 0, "new", 2, ())
        self.assert_table((one, more), ("alike",), "shown", (START, (1, 1, ((0, 0),)), (2, 2, ())))
        self.assert_table((Watcher(3), wide()), ("alike",), "shown", (START,))

    def test_shortest_streams(self):
        self.assert_stream((once(), Watcher(1)), ("alike",), "broken", 2)
        self.assert_stream((Watcher(1), once()), ("alike",), "broken", 2)
        other = Watcher(1)
        other.set_verdict(0, 1)
        self.assert_stream((other, Watcher(1)), ("alike",), "broken", 0)
        self.assertEqual(decide((other, Watcher(1)), ("alike",)), ("broken", ("alike",), ()))

    def test_watchers_alike_but_for_one_rule(self):
        chooser = random.Random(111)
        answers = []
        for one, _ in some_pairs(112, 60):
            if one.rules():
                other = one.twin()
                other.remove_rule(*chooser.choice(list(other.rules())))
                for pair in ((one, other), (other, one)):
                    self.assert_told(pair, ("alike",))
                    answers.append(decide(pair, ("alike",))[0])
        self.assertGreater(min(answers.count("shown"), answers.count("broken")), 10)

    def test_watchers_that_are_alike_in_disguise(self):
        for pair in alike_pairs(113, 40):
            for turned in (pair, pair[::-1]):
                self.assertEqual(decide(turned, ("alike",))[0], "shown")
                self.assert_told(turned, ("alike",))

    def test_watchers_by_chance_and_exchanged(self):
        for pair in some_pairs(114, 60):
            self.assert_told(pair, ("alike",))
            self.assert_told(pair[::-1], ("alike",))
            self.assertEqual(decide(pair, ("alike",))[0], decide(pair[::-1], ("alike",))[0])

    def test_the_answer_is_that_of_drawn_streams(self):
        chooser = random.Random(115)
        for pair in some_pairs(116, 40) + alike_pairs(117, 40):
            shown = decide(pair, ("alike",))[0] == "shown"
            streams = [some_stream(chooser, pair[0].words, range(5), chooser.randrange(25)) for _ in range(20)]
            if shown:
                for stream in streams:
                    self.assertEqual(told_verdict(pair[0], stream), told_verdict(pair[1], stream))


class DecideFromSituationsTest(DecideCase):
    def test_what_no_stream_reaches(self):
        pair = (once(), once())
        closed = ((1, 1, ()), (1, 1, ((0, 0),)), (1, 2, ()), (2, 1, ()), (2, 2, ()))
        self.assert_stream(pair, ("alike", 1, 1, ()), "broken", 1)
        for watcher in pair:
            watcher.set_verdict(2, 0)
        self.assert_table(pair, ("alike", 1, 1, ()), "shown", closed)
        self.assert_table(pair, ("alike", 2, 2, ()), "shown", ((2, 2, ()),))
        pair[1].set_verdict(2, 3)
        self.assert_stream(pair, ("alike", 1, 2, ()), "broken", 0)
        self.assert_stream(pair, ("alike", 2, 2, ()), "broken", 0)

    def test_places_without_a_pair_on_both_sides(self):
        # The values 0 and 1 stand for the places of p, 2 for the free place of q.
        teller = built(1, [(0, 2), (1, 0)], [(1, 0, 0, 2, ())])
        late = built(1, [(0, 2), (1, 0)], [(1, 0, 1, 2, ())])
        for pairs, value in ((((0, 0),), (0, 2)), (((0, 0), (1, 1)), (0, 1)), ((), (0, 3)), (((1, 0),), (0, 2))):
            with self.subTest(pairs=pairs):
                self.assert_stream((teller, late), ("alike", 1, 1, pairs), "broken", 1)
                _, _, ((_, found),) = decide((teller, late), ("alike", 1, 1, pairs))
                self.assertIn(found, value)
        self.assert_table((teller, late), ("alike", 1, 1, ((0, 1),)), "shown", ((1, 1, ((0, 1),)), (2, 2, ())))
        self.assert_table((teller, late), ("alike", 1, 1, ((0, 1), (1, 0))), "shown",
                          ((1, 1, ((0, 1), (1, 0))), (2, 2, ())))

    def test_the_start_by_its_situation(self):
        pair = (once(), once())
        certificate = self.decided(pair, ("alike", 0, 0, ()))
        self.assertEqual(certificate, ("shown", ("alike", 0, 0, ()), decide(pair, ("alike",))[2]))

    def test_watchers_by_chance(self):
        one = turning()
        answers = []
        for number, pair in enumerate([(one, one), (turning(), wide())] + some_pairs(121, 40) + alike_pairs(122, 30)):
            situations = list(all_situations(pair))
            chooser = random.Random(number)
            for situation in chooser.sample(situations, min(6, len(situations))):
                self.assert_told(pair, ("alike", *situation))
                answers.append(decide(pair, ("alike", *situation))[0])
        self.assertGreater(min(answers.count("shown"), answers.count("broken")), 50)

    def test_behind_a_stream_it_is_about_all_streams_that_go_on(self):
        chooser = random.Random(123)
        for pair in some_pairs(124, 40) + alike_pairs(125, 20):
            beginning = some_stream(chooser, pair[0].words, range(4), 6)
            if decide(pair, ("alike", *situation_behind(pair, beginning)))[0] == "shown":
                for _ in range(10):
                    stream = beginning + some_stream(chooser, pair[0].words, range(6), 8)
                    self.assertEqual(told_verdict(pair[0], stream), told_verdict(pair[1], stream))


class DecideTogetherTest(DecideCase):
    def test_verdicts_that_come_together(self):
        pair = (once(), once())
        self.assert_stream(pair, ("together", 0, 0), "shown", 0)
        self.assert_stream(pair, ("together", 1, 1), "shown", 2)
        table = (START, (1, 1, ((0, 0),)), (2, 2, ()))
        self.assert_table(pair, ("together", 0, 1), "broken", table)
        self.assert_table(pair, ("together", 1, 0), "broken", table)
        pair[1].set_verdict(2, 2)
        self.assert_stream(pair, ("together", 1, 2), "shown", 2)
        self.assert_table(pair, ("together", 2, 1), "broken", table)

    def test_the_first_verdict_is_that_of_the_first_watcher(self):
        other = Watcher(1)
        other.set_verdict(0, 3)
        self.assert_stream((other, Watcher(1)), ("together", 3, 0), "shown", 0)
        self.assert_table((other, Watcher(1)), ("together", 0, 3), "broken", (START,))

    def test_verdicts_that_no_state_has(self):
        pair = (once(), once())
        table = (START, (1, 1, ((0, 0),)), (2, 2, ()))
        for x, y in ((2, 0), (0, 2), (3, 3), (1, 3), (2, 2)):
            self.assert_table(pair, ("together", x, y), "broken", table)

    def test_watchers_by_chance(self):
        answers = []
        for number, pair in enumerate(some_pairs(131, 40) + alike_pairs(132, 20)):
            for x in range(4):
                claim = ("together", x, (x + number) % 4)
                self.assert_told(pair, claim)
                answers.append(decide(pair, claim)[0])
        self.assertGreater(min(answers.count("shown"), answers.count("broken")), 30)


class DecideNeededTest(DecideCase):
    def test_unneeded(self):
        one = once()
        self.assert_stream((one, Watcher(1)), ("unneeded", "A", 1, 0), "broken", 1)
        self.assert_stream((Watcher(1), one), ("unneeded", "B", 1, 0), "broken", 1)
        one.set_verdict(2, 0)
        closed = ((1, 1, ()), (1, 1, ((0, 0),)), (1, 2, ()), (2, 1, ()), (2, 2, ()))
        self.assert_table((one, Watcher(1)), ("unneeded", "A", 1, 0), "shown", closed)

    def test_swap(self):
        both = built(1, [(0, 2), (1, 0)], [(1, 0, 0, 2, ()), (1, 0, 1, 2, ())])
        other = Watcher(1)
        table = ((1, 1, ((0, 1), (1, 0))), (2, 2, ()))
        self.assert_table((both, other), ("swap", "A", 1, 0, 1), "shown", table)
        self.assert_table((other, both), ("swap", "B", 1, 0, 1), "shown", table)
        both.remove_rule(1, 0, 1)
        self.assert_stream((both, other), ("swap", "A", 1, 0, 1), "broken", 1)
        self.assert_stream((other, both), ("swap", "B", 1, 0, 1), "broken", 1)

    def test_they_are_claims_alike_of_the_watcher_with_itself(self):
        three = built(2, [(0, 3), (1, 0), (2, 1)], [(1, 0, 0, 2, ()), (1, 0, 1, 2, ()), (1, 1, 2, 3, (0,))])
        pair = (Watcher(2), three)
        for claim, pairs in (
            (("unneeded", "B", 1, 0), ((1, 1), (2, 2))),
            (("unneeded", "B", 1, 1), ((0, 0), (2, 2))),
            (("unneeded", "B", 1, 2), ((0, 0), (1, 1))),
            (("swap", "B", 1, 0, 1), ((0, 1), (1, 0), (2, 2))),
            (("swap", "B", 1, 0, 2), ((0, 2), (1, 1), (2, 0))),
            (("swap", "B", 1, 1, 2), ((0, 0), (1, 2), (2, 1))),
        ):
            alike = decide((three, three), ("alike", 1, 1, pairs))
            self.assertEqual(self.decided(pair, claim), (alike[0], claim, alike[2]))
            self.assert_told(pair, claim)

    def test_what_they_mean_for_streams(self):
        chooser = random.Random(141)
        for pair in [(turning(), Watcher(3))] + some_pairs(142, 40, 4) + alike_pairs(143, 30, 3):
            for claim in claims_about(pair):
                if claim[0] in ("unneeded", "swap"):
                    self.assert_told(pair, claim)
                    self.assert_meaning(chooser, pair["AB".index(claim[1])], claim, decide(pair, claim))

    def assert_meaning(self, chooser, watcher, claim, certificate):
        p, i = claim[2:4]
        held = list(range(watcher.held_counts()[p]))
        other = list(held)
        if claim[0] == "swap":
            other[i], other[claim[4]] = claim[4], i
        else:
            other[i] = len(held)
        streams = [some_stream(chooser, watcher.words, range(6), 8) for _ in range(8)]
        if certificate[0] == "broken":
            streams = [certificate[2]]
        for stream in streams:
            verdicts = [told_verdict(watcher, stream, p, values) for values in (held, other)]
            self.assertEqual(verdicts[0] == verdicts[1], certificate[0] == "shown")


class DecideNeverTest(DecideCase):
    def test_a_verdict_that_comes_or_not(self):
        one = once()
        pair = (one, Watcher(1))
        self.assert_stream(pair, ("never", "A", 0), "broken", 0)
        self.assert_stream(pair, ("never", "A", 1), "broken", 2)
        self.assert_table(pair, ("never", "A", 2), "shown", (0, 1, 2))
        self.assert_table(pair, ("never", "B", 1), "shown", (0,))
        self.assert_stream(pair[::-1], ("never", "B", 1), "broken", 2)

    def test_only_reached_states_count(self):
        pair = (wide(), wide())
        self.assert_table(pair, ("never", "A", 1), "shown", (0,))
        pair[0].add_rule(0, 1, "new", 1, ("value",))
        self.assert_stream(pair, ("never", "A", 1), "broken", 1)
        self.assert_table(pair, ("never", "A", 3), "shown", (0, 1))
        self.assert_table(pair, ("never", "B", 1), "shown", (0,))

    def test_watchers_by_chance(self):
        answers = []
        for pair in some_pairs(151, 80):
            for side, watcher in zip("AB", pair):
                lengths = told_reached(watcher)
                for verdict in range(4):
                    claim = ("never", side, verdict)
                    found = [lengths[state] for state in lengths if watcher.verdicts()[state] == verdict]
                    if found:
                        self.assert_stream(pair, claim, "broken", min(found))
                    else:
                        self.assert_table(pair, claim, "shown", tuple(sorted(lengths)))
                    answers.append(bool(found))
        self.assertGreater(min(answers.count(True), answers.count(False)), 50)


def counter(verdicts):
    """A watcher without places that counts messages up to its last state."""
    watcher = Watcher(1)
    watcher.set_verdict(0, verdicts[0])
    for number, verdict in enumerate(verdicts[1:]):
        watcher.add_state(verdict, 0)
        watcher.add_rule(number, 0, "new", number + 1, ())
    return watcher


def three_places(tellers):
    """Word 1 brings the values of states 3 and 4 into other orders, word 2 tells these (state, place)."""
    watcher = ladder(3)
    watcher.add_rule(3, 0, "new", 4, (1, 2, "value"))
    watcher.add_rule(3, 1, 1, 3, (1, 0, 2))
    watcher.add_rule(4, 1, 1, 4, (0, 2, 1))
    for state, place in tellers:
        watcher.add_rule(state, 2, place, 5, ())
    return watcher


class DecideLeastTest(DecideCase):
    def assert_least(self, pair, side):
        """The watcher of this side is shown least, by shortest streams or not."""
        claim = ("least", side)
        watcher = pair["AB".index(side)]
        answer, _, content = self.decided(pair, claim)
        self.assertEqual((answer, type(content), len(content)), ("shown", tuple, 3))
        self.assertEqual([type(row) for row in content], [tuple] * 3)
        streams, needs, parts = content
        self.assertEqual([told_run(watcher, stream)[0] for stream in streams], list(range(len(watcher))))
        asked = [claim for claim in claims_about((watcher, watcher)) if claim[:2] == ("unneeded", "A")]
        asked += [("alike", *part) for part in told_parts(watcher)]
        self.assertEqual(len(needs + parts), len(asked))
        for one, stream in zip(asked, needs + parts):
            watchers, situation, is_sought = told_comparison((watcher, watcher), one)
            require_stream(stream, watcher.words)
            self.assertTrue(is_sought(told_continuation(watchers, situation, stream)))

    def assert_not_least(self, pair, side, wanted=None):
        watcher = pair["AB".index(side)]
        answer, _, part = self.decided(pair, ("least", side))
        self.assertEqual((answer, type(part)), ("broken", tuple))
        if wanted:
            self.assertEqual(part[:-1], wanted)
        if part[0] == "unreached":
            self.assertEqual(len(part), 3)
            self.assertNotIn(part[1], part[2])
            self.assertIn(part[1], range(len(watcher)))
            self.assertEqual(part[2], tuple(sorted(told_reached(watcher))))
            return
        pairs = part[3] if part[0] == "alike" else tuple(
            (j, j) for j in range(watcher.held_counts()[part[1]]) if j != part[2])
        if part[0] == "alike":
            self.assertLess(part[1], part[2])
            self.assertEqual([watcher.held_counts()[state] for state in part[1:3]], [len(pairs)] * 2)
        situation = (part[1], part[2] if part[0] == "alike" else part[1], pairs)
        self.assertEqual(part[-1], told_closure((watcher, watcher), situation))
        for here in part[-1]:
            one, two = verdicts_of((watcher, watcher), here)
            self.assertEqual(one, two)

    def test_least_watchers(self):
        for watcher in (once(), Watcher(1), Watcher(3), counter((0, 1)), counter((0, 1, 2, 3, 1, 2))):
            self.assert_least((watcher, watcher), "A")
            self.assert_least((watcher, watcher), "B")
            self.assert_least((Watcher(watcher.words), watcher), "B")

    def test_the_side_that_is_named(self):
        pair = (once(), holding(1))
        self.assert_least(pair, "A")
        self.assert_not_least(pair, "B", ("unreached", 1))
        self.assert_least(pair[::-1], "B")
        self.assert_not_least(pair[::-1], "A", ("unreached", 1))

    def test_six_states_without_places(self):
        self.assert_least((counter((0, 1, 2, 3, 0, 1)), Watcher(1)), "A")
        self.assert_least((counter((0, 0, 0, 0, 0, 1)), Watcher(1)), "A")
        self.assert_not_least((counter((0, 1, 0, 1, 0, 0)), Watcher(1)), "A", ("alike", 4, 5, ()))
        looped = counter((0, 1, 0, 1, 0, 1))
        looped.add_rule(5, 0, "new", 0, ())
        self.assert_not_least((looped, Watcher(1)), "A")
        self.assertEqual(decide((looped, looped), ("least", "A"))[2][0], "alike")

    def test_broken_by_an_unreached_state(self):
        one = once()
        one.add_state(0, 2)
        one.add_rule(3, 0, "new", 1, ("value",))
        self.assert_not_least((one, once()), "A", ("unreached", 3))
        one.add_rule(2, 0, "new", 2, ())
        self.assert_not_least((one, once()), "A", ("unreached", 3))

    def test_broken_by_an_unneeded_place(self):
        one = once()
        one.set_verdict(2, 0)
        one.add_state(1, 0)
        one.add_rule(2, 0, "new", 3, ())
        self.assert_least((one, once()), "A")
        kept = built(1, [(0, 1), (1, 1), (2, 0)], [
            (0, 0, "new", 1, ("value",)), (1, 0, 0, 2, (0,)), (1, 0, "new", 3, ()), (2, 0, 0, 2, (0,))])
        self.assert_not_least((kept, kept), "B", ("unneeded", 2, 0))

    def test_broken_by_states_that_are_alike_in_some_order(self):
        # State 3 is state 2 with its places the other way round.
        one = built(2, [(0, 1), (0, 2), (0, 2), (1, 0), (2, 0)], [
            (0, 0, "new", 1, ("value",)), (1, 0, "new", 2, (0, "value")), (1, 1, "new", 3, ("value", 0)),
            (2, 0, 0, 4, ()), (2, 0, 1, 5, ()), (3, 0, 1, 4, ()), (3, 0, 0, 5, ())])
        self.assert_not_least((one, one), "A", ("alike", 2, 3, ((0, 1), (1, 0))))
        one.remove_rule(3, 0, 0)
        one.add_rule(3, 0, 0, 4, ())
        self.assert_least((one, one), "A")

    def test_three_places_in_two_states(self):
        for tellers, shown in (
            (((3, 0), (3, 1), (3, 2), (4, 0), (4, 1)), True),
            (((3, 0), (3, 2), (4, 0), (4, 1)), True),
            (((3, 1), (3, 2), (4, 0), (4, 1), (4, 2)), True),
            (((3, 0), (3, 1), (3, 2), (4, 0), (4, 1), (4, 2)), True),
            (((3, 0), (3, 1), (3, 2)), False),
        ):
            one = three_places(tellers)
            with self.subTest(tellers=tellers):
                self.assertEqual(not told_least(one), shown)
                (self.assert_least if shown else self.assert_not_least)((one, one), "A")
            if shown:
                # Two other states have no places: there is one way to pair these.
                self.assertEqual(tuple(map(len, decide((one, one), ("least", "B"))[2])), (6, 9, 7))

    def test_each_way_to_pair_three_places(self):
        # Just one way to pair the places of both states makes them alike.
        for order in permutations(range(3)):
            one = in_two_orders(order)
            pairs = tuple(enumerate(order.index(place) for place in range(3)))
            self.assert_not_least((one, one), "A", ("alike", 3, 4, pairs))

    def test_watchers_by_chance(self):
        kinds_of_parts = []
        for pair in some_pairs(161, 150) + alike_pairs(162, 60):
            for side, watcher in zip("AB", pair):
                parts = told_least(watcher)
                if parts:
                    self.assert_not_least(pair, side)
                    kinds_of_parts.append(decide(pair, ("least", side))[2][0])
                    self.assertIn(decide(pair, ("least", side))[2][:-1], parts)
                else:
                    self.assert_least(pair, side)
                    kinds_of_parts.append("shown")
        for kind in ("unreached", "unneeded", "alike", "shown"):
            self.assertGreater(kinds_of_parts.count(kind), 5, kind)


class DecideErrorsTest(ClaimCase):
    def test_unlike_numbers_of_words(self):
        for pair in ((once(), wide()), (wide(), once())):
            for claim in [*claims_about(pair), ("alike", 0, 0, ()), *STRANGE, DEEP, ("never", "A", 4)]:
                with self.assertRaises(Unpaired):
                    decide(pair, claim)

    def test_a_wrong_claim(self):
        for value in STRANGE + (DEEP, ("alike", 9, 9, ()), ("never", "A", 4), ["alike"]):
            with self.assertRaises(InvalidClaim):
                decide((once(), once()), value)

    def test_arguments_by_name(self):
        claim = ("never", "A", 3)
        self.assertEqual(decide(claim=claim, pair=(once(), once())), ("shown", claim, (0, 1, 2)))
        self.assertEqual(list(inspect.signature(decide).parameters), ["pair", "claim"])


class DecideEditsTest(DecideCase):
    def test_the_same_claims_behind_edits_and_back(self):
        pair = (once(), once())
        claims = [*claims_about(pair), ("alike", 1, 1, ()), ("alike", 1, 1, ((0, 0),))]
        first = [decide(pair, claim) for claim in claims]

        def all_told():
            for claim in claims:
                if claim[0] not in ("never", "least"):
                    self.assert_told(pair, claim)
            return [decide(pair, claim) for claim in claims]

        pair[1].set_verdict(2, 2)
        self.assertNotEqual(all_told(), first)
        with self.assertRaises(ValueError):
            pair[1].set_verdict(2, 4)
        pair[1].set_verdict(2, 1)
        self.assertEqual(all_told(), first)
        pair[0].remove_rule(1, 0, 0)
        self.assertNotEqual(all_told(), first)
        with self.assertRaises(LookupError):
            pair[0].remove_rule(1, 0, 0)
        pair[0].add_rule(1, 0, 0, 2, ())
        self.assertEqual(all_told(), first)
        with self.assertRaises(RuntimeError):
            pair[0].add_rule(1, 0, 0, 1, (0,))
        self.assertEqual(all_told(), first)

    def test_edits_of_watchers_by_chance(self):
        chooser = random.Random(171)
        for pair in some_pairs(172, 20, 4):
            claims = some_claims(173, pair, 6)
            for _ in range(5):
                watcher = chooser.choice(pair)
                if watcher.rules() and chooser.random() < 0.6:
                    watcher.remove_rule(*chooser.choice(list(watcher.rules())))
                else:
                    watcher.set_verdict(chooser.randrange(len(watcher)), chooser.randrange(4))
                for claim in claims:
                    if claim[0] not in ("never", "least"):
                        self.assert_told(pair, claim)

    def test_edits_of_one_watcher_on_both_sides(self):
        one = once()
        pair = (one, one)
        self.assertEqual(decide(pair, ("alike",))[0], "shown")
        one.set_verdict(2, 3)
        self.assert_stream(pair, ("together", 3, 3), "shown", 2)
        self.assert_table(pair, ("alike",), "shown", (START, (1, 1, ((0, 0),)), (2, 2, ())))


if __name__ == "__main__":
    unittest.main()
