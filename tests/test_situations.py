import copy
import random
import unittest

from samples import MOST, built, kinds, look, numbered_streams, once, some_pairs, some_stream, turning, wide
from seenbefore.runs import run, verdict_of
from seenbefore.situations import cases, reached_situations, situation_behind, step, verdicts_from
from seenbefore.watchers import Watcher
from told import START, all_situations, told_cases, told_closure, told_situation, told_step


def value_of(pair, stream, case):
    """The value of a message that makes this case behind the stream."""
    first, second = run(pair[0], stream)[1], run(pair[1], stream)[1]
    return {"both": first, "first": first, "second": second, "new": (10 ** 6,)}[case[0]][(case + (0,))[1]]


def streams_behind(pair, longest):
    """A dict from the situations behind streams of at most this length to such streams."""
    found = {}
    for stream in numbered_streams(pair[0].words, longest):
        found.setdefault(told_situation(pair, stream), stream)
    return found


def turning_of_one_word():
    return built(1, [(0, 1), (1, 2)], [
        (0, 0, "new", 1, ("value",)),
        (1, 0, "new", 2, ("value", 0)),
        (2, 0, 0, 2, (1, 0)),
        (2, 0, 1, 1, (1,)),
        (2, 0, "new", 2, ("value", 0)),
    ])


class PairCase(unittest.TestCase):
    def assert_unchanged(self, pair, call, *arguments):
        """The call's answer is new each time, and it changes neither the watchers nor its arguments."""
        before = [look(watcher) for watcher in pair]
        handed = copy.deepcopy(arguments)
        answer = call(pair, *arguments)
        self.assertEqual(kinds(call(pair, *arguments)), kinds(answer))
        self.assertEqual(kinds([look(watcher) for watcher in pair]), kinds(before))
        self.assertEqual(kinds(arguments), kinds(handed))
        return answer


class CasesTest(PairCase):
    def assert_cases(self, pair, situation, wanted):
        self.assertEqual(kinds(self.assert_unchanged(pair, cases, situation)), kinds(wanted))

    def test_the_example(self):
        self.assert_cases((once(), once()), (1, 1, ()), (("first", 0), ("second", 0), ("new",)))

    def test_the_start_has_one_case(self):
        for pair in ((Watcher(1), Watcher(1)), (wide(), turning()), (once(), once())):
            self.assert_cases(pair, START, (("new",),))

    def test_with_pairs_without_and_with_some_places_paired_only(self):
        pair = (wide(), wide())
        for situation, wanted in (
            ((1, 1, ((0, 0),)), (("both", 0, 0), ("new",))),
            ((0, 2, ()), (("second", 0), ("second", 1), ("new",))),
            ((2, 0, ()), (("first", 0), ("first", 1), ("new",))),
            ((3, 1, ()), (("first", 0), ("first", 1), ("first", 2), ("second", 0), ("new",))),
            ((3, 1, ((1, 0),)), (("both", 1, 0), ("first", 0), ("first", 2), ("new",))),
            ((1, 3, ((0, 2),)), (("both", 0, 2), ("second", 0), ("second", 1), ("new",))),
            ((3, 3, ((0, 2), (1, 0), (2, 1))), (("both", 0, 2), ("both", 1, 0), ("both", 2, 1), ("new",))),
            ((3, 3, ((0, 2), (2, 1))),
             (("both", 0, 2), ("both", 2, 1), ("first", 1), ("second", 0), ("new",))),
            ((3, 3, ((2, 0),)),
             (("both", 2, 0), ("first", 0), ("first", 1), ("second", 1), ("second", 2), ("new",))),
            ((2, 3, ((0, 1), (1, 0))), (("both", 0, 1), ("both", 1, 0), ("second", 2), ("new",))),
        ):
            with self.subTest(situation=situation):
                self.assert_cases(pair, situation, wanted)

    def test_all_situations(self):
        one = wide()
        for pair in ((one, one), (wide(), wide()), (turning(), wide())):
            for situation in all_situations(pair):
                self.assert_cases(pair, situation, told_cases(pair, situation))

    def test_cases_do_not_depend_on_rules_and_verdicts(self):
        for pair in some_pairs(81, 10):
            for situation in all_situations(pair):
                self.assert_cases(pair, situation, told_cases(pair, situation))

    def test_the_same_watcher_twice(self):
        one = once()
        self.assert_cases((one, one), (1, 1, ()), (("first", 0), ("second", 0), ("new",)))
        self.assert_cases((one, one), (1, 1, ((0, 0),)), (("both", 0, 0), ("new",)))

    def test_a_state_that_was_added_later(self):
        pair = (once(), once())
        pair[1].add_state(0, 2)
        self.assert_cases(pair, (1, 3, ((0, 1),)), (("both", 0, 1), ("second", 0), ("new",)))

    def test_arguments_by_name(self):
        self.assertEqual(cases(situation=(1, 0, ()), pair=(once(), once())), (("first", 0), ("new",)))


class StepTest(PairCase):
    def assert_step(self, pair, situation, word, case, wanted):
        self.assertEqual(kinds(self.assert_unchanged(pair, step, situation, word, case)), kinds(wanted))

    def test_the_example(self):
        one = once()
        for pair in ((one, one), (one, once())):
            self.assert_step(pair, (1, 1, ()), 0, ("new",), (1, 1, ((0, 0),)))
            self.assert_step(pair, (1, 1, ()), 0, ("first", 0), (2, 1, ()))

    def test_each_case_of_the_example(self):
        pair = (once(), once())
        for situation, case, wanted in (
            (START, ("new",), (1, 1, ((0, 0),))),
            ((1, 1, ((0, 0),)), ("both", 0, 0), (2, 2, ())),
            ((1, 1, ((0, 0),)), ("new",), (1, 1, ((0, 0),))),
            ((1, 1, ()), ("second", 0), (1, 2, ())),
            ((0, 1, ()), ("second", 0), (1, 2, ())),
            ((0, 1, ()), ("new",), (1, 1, ((0, 0),))),
            ((2, 1, ()), ("new",), (2, 1, ())),
        ):
            with self.subTest(situation=situation, case=case):
                self.assert_step(pair, situation, 0, case, wanted)

    def test_a_place_and_value_carry_the_same(self):
        keeper = built(1, [(0, 1)], [(0, 0, "new", 1, ("value",)), (1, 0, 0, 1, (0,))])
        pair = (keeper, once())
        # In the case ("first", 0) the first watcher keeps the value that the second one takes.
        self.assert_step(pair, (1, 1, ()), 0, ("first", 0), (1, 1, ((0, 0),)))
        self.assert_step((once(), keeper), (1, 1, ()), 0, ("second", 0), (1, 1, ((0, 0),)))
        self.assert_step(pair, (1, 1, ()), 0, ("new",), (1, 1, ()))
        self.assert_step(pair, (1, 1, ((0, 0),)), 0, ("new",), (1, 1, ()))

    def test_pairs_that_come_and_go(self):
        pair = (turning(), turning())
        for situation, word, case, wanted in (
            ((2, 2, ((0, 0), (1, 1))), 0, ("both", 0, 0), (2, 2, ((0, 0), (1, 1)))),
            ((2, 2, ((0, 0), (1, 1))), 0, ("both", 1, 1), (2, 2, ((0, 0), (1, 1)))),
            ((2, 2, ((0, 0), (1, 1))), 1, ("both", 1, 1), (4, 4, ((0, 0),))),
            ((2, 2, ((0, 1), (1, 0))), 0, ("both", 0, 1), (2, 2, ((0, 0), (1, 1)))),
            ((2, 2, ((0, 1), (1, 0))), 1, ("both", 0, 1), (3, 4, ())),
            ((2, 2, ((0, 1), (1, 0))), 0, ("new",), (2, 2, ((0, 0),))),
            ((2, 2, ((0, 0),)), 0, ("first", 1), (2, 2, ((0, 1), (1, 0)))),
            ((2, 2, ((0, 0),)), 0, ("second", 1), (2, 2, ((0, 1), (1, 0)))),
            ((2, 2, ((1, 1),)), 0, ("first", 0), (2, 2, ((1, 0),))),
            ((2, 2, ((1, 0),)), 0, ("first", 0), (2, 2, ((0, 1), (1, 0)))),
            ((2, 2, ()), 0, ("first", 0), (2, 2, ((1, 0),))),
            ((2, 2, ()), 0, ("new",), (2, 2, ((0, 0),))),
            ((2, 2, ()), 1, ("new",), (2, 2, ())),
            ((2, 2, ((0, 1),)), 2, ("both", 0, 1), (2, 2, ((0, 1),))),
            ((2, 2, ((0, 1),)), 2, ("first", 1), (2, 2, ((0, 1),))),
        ):
            with self.subTest(situation=situation, word=word, case=case):
                self.assert_step(pair, situation, word, case, wanted)

    def test_each_step_of_every_situation_is_what_the_document_tells(self):
        one = turning()
        for pair in [(one, one), (turning(), wide()), (wide(), wide())] + some_pairs(83, 12, 4):
            for situation in all_situations(pair):
                for word in range(pair[0].words):
                    for case in told_cases(pair, situation):
                        self.assertEqual(
                            kinds(step(pair, situation, word, case)), kinds(told_step(pair, situation, word, case)))

    def test_two_runs_show_each_step(self):
        one = turning()
        many = 0
        for pair in [(one, one), (turning(), wide())] + some_pairs(84, 150):
            for situation, stream in streams_behind(pair, 4).items():
                for word in range(pair[0].words):
                    for case in told_cases(pair, situation):
                        longer = stream + ((word, value_of(pair, stream, case)),)
                        self.assertEqual(step(pair, situation, word, case), told_situation(pair, longer))
                        many += 1
        self.assertGreater(many, 1000)

    def test_an_answer_follows_the_edits_of_both_watchers(self):
        pair = (once(), once())
        self.assert_step(pair, (1, 1, ()), 0, ("first", 0), (2, 1, ()))
        pair[0].remove_rule(1, 0, 0)
        self.assert_step(pair, (1, 1, ()), 0, ("first", 0), (1, 1, ((0, 0),)))
        pair[1].remove_rule(1, 0, "new")
        self.assert_step(pair, (1, 1, ()), 0, ("first", 0), (1, 1, ()))
        pair[0].add_rule(1, 0, 0, 0, ())
        pair[1].add_rule(1, 0, "new", 2, ())
        self.assert_step(pair, (1, 1, ()), 0, ("first", 0), (0, 2, ()))

    def test_arguments_by_name(self):
        one = once()
        self.assertEqual(step(case=("new",), word=0, situation=(1, 1, ()), pair=(one, one)), (1, 1, ((0, 0),)))
        self.assertEqual(step((one, one), (1, 1, ()), case=("first", 0), word=0), (2, 1, ()))


class ReachedSituationsTest(PairCase):
    def assert_reached(self, pair, situation, wanted):
        self.assertEqual(kinds(self.assert_unchanged(pair, reached_situations, situation)), kinds(wanted))

    def test_ordinary_pairs_from_the_start(self):
        self.assert_reached((once(), once()), START, (START, (1, 1, ((0, 0),)), (2, 2, ())))
        self.assert_reached((once(), Watcher(1)), START, (START, (1, 0, ()), (2, 0, ())))
        self.assert_reached((Watcher(1), once()), START, (START, (0, 1, ()), (0, 2, ())))
        self.assert_reached((Watcher(2), Watcher(2)), START, (START,))
        self.assert_reached((wide(), wide()), START, (START,))

    def test_from_situations_that_no_stream_reaches(self):
        one = once()
        for pair in ((one, one), (once(), once())):
            self.assert_reached(pair, (1, 1, ()), (
                (1, 1, ()), (1, 1, ((0, 0),)), (1, 2, ()), (2, 1, ()), (2, 2, ())))
            self.assert_reached(pair, (2, 2, ()), ((2, 2, ()),))
            self.assert_reached(pair, (2, 0, ()), ((2, 0, ()), (2, 1, ()), (2, 2, ())))
        pair = (wide(), wide())
        for situation in all_situations(pair):
            self.assert_reached(pair, situation, (situation,))

    def test_situations_are_ordered_as_tuples(self):
        one = turning()
        found = reached_situations((one, one), (2, 2, ()))
        self.assertEqual(list(found), sorted(set(found)))
        # Without pairs comes before with them, (0, 0) before (0, 1), fewer before more that begin alike.
        at = [found.index((2, 2, pairs)) for pairs in ((), ((0, 0),), ((0, 0), (1, 1)), ((0, 1),), ((1, 0),))]
        self.assertEqual(at, sorted(at))

    def test_it_is_the_closure_that_the_document_tells(self):
        one = turning()
        for pair in [(one, one), (turning(), wide()), (one, one.twin())] + some_pairs(85, 40):
            chooser = random.Random(len(pair[0]))
            situations = list(all_situations(pair))
            for situation in [START, situations[-1]] + chooser.sample(situations, min(3, len(situations))):
                self.assert_reached(pair, situation, told_closure(pair, situation))

    def test_from_the_start_they_are_those_behind_streams(self):
        chooser = random.Random(86)
        for pair in [(once(), turning_of_one_word())] + some_pairs(87, 40, 3):
            found = reached_situations(pair, START)
            for _ in range(20):
                stream = some_stream(chooser, pair[0].words, range(5), 20)
                self.assertIn(situation_behind(pair, stream), found)

    def test_short_streams_come_to_all_of_them(self):
        one = turning()
        many = 0
        for pair in [(one, one), (once(), once())] + some_pairs(88, 120):
            behind = streams_behind(pair, 4)
            found = reached_situations(pair, START)
            self.assertTrue(set(behind) <= set(found))
            # A shortest stream to a situation shows each situation at most once.
            if len(found) <= 5:
                self.assertEqual(tuple(sorted(behind)), found)
                many += 1
        self.assertGreater(many, 80)

    def test_edits_in_place_and_their_undoing(self):
        pair = (once(), once())
        alike = (START, (1, 1, ((0, 0),)), (2, 2, ()))
        self.assert_reached(pair, START, alike)
        pair[1].remove_rule(1, 0, 0)
        parted = (START, (1, 1, ((0, 0),)), (2, 1, ()))
        self.assert_reached(pair, START, parted)
        pair[1].set_verdict(1, 2)
        self.assert_reached(pair, START, parted)
        pair[1].add_rule(1, 0, 0, 2, ())
        self.assert_reached(pair, START, alike)
        pair[0].remove_rule(0, 0, "new")
        self.assert_reached(pair, START, (START, (0, 1, ()), (0, 2, ())))
        pair[0].add_rule(0, 0, "new", 0, ())
        self.assert_reached(pair, START, (START, (0, 1, ()), (0, 2, ())))
        pair[0].remove_rule(0, 0, "new")
        pair[0].add_rule(0, 0, "new", 1, ("value",))
        self.assert_reached(pair, START, alike)
        pair[0].add_state(0, 3)
        self.assert_reached(pair, START, alike)

    def test_edits_of_a_watcher_that_is_both(self):
        one = once()
        self.assert_reached((one, one), START, (START, (1, 1, ((0, 0),)), (2, 2, ())))
        one.remove_rule(1, 0, 0)
        self.assert_reached((one, one), START, (START, (1, 1, ((0, 0),))))
        self.assert_reached((one, once()), START, (START, (1, 1, ((0, 0),)), (1, 2, ())))

    def test_arguments_by_name(self):
        self.assertEqual(reached_situations(situation=(2, 2, ()), pair=(once(), once())), ((2, 2, ()),))


class SituationBehindTest(PairCase):
    def assert_behind(self, pair, stream, wanted):
        self.assertEqual(kinds(self.assert_unchanged(pair, situation_behind, stream)), kinds(wanted))

    def test_the_empty_stream(self):
        for pair in ((Watcher(1), once()), (wide(), turning())):
            self.assert_behind(pair, (), START)

    def test_ordinary_streams(self):
        pair = (once(), turning_of_one_word())
        for stream, wanted in (
            (((0, 7),), (1, 1, ((0, 0),))),
            (((0, 7), (0, 8)), (1, 2, ((0, 0),))),
            (((0, 7), (0, 8), (0, 7)), (1, 1, ((0, 0),))),
            (((0, 7), (0, 8), (0, 8)), (2, 2, ())),
            (((0, 7), (0, 7)), (2, 1, ())),
            (((0, 7), (0, 8), (0, 9), (0, 8)), (1, 1, ((0, 0),))),
        ):
            with self.subTest(stream=stream):
                self.assert_behind(pair, stream, wanted)

    def test_crossed_pairs(self):
        later = built(1, [(0, 1), (0, 2)], [(0, 0, "new", 1, ("value",)), (1, 0, "new", 2, (0, "value"))])
        self.assert_behind((turning_of_one_word(), later), ((0, 7), (0, 8)), (2, 2, ((0, 1), (1, 0))))

    def test_it_is_what_both_runs_show(self):
        chooser = random.Random(91)
        for pair in some_pairs(92, 80):
            for values in (range(3), range(6), (MOST, -MOST, 0, 1)):
                stream = some_stream(chooser, pair[0].words, values, 20)
                for end in range(len(stream) + 1):
                    self.assert_behind(pair, stream[:end], told_situation(pair, stream[:end]))

    def test_long_streams(self):
        pair = (once(), turning_of_one_word())
        stream = tuple((0, n) for n in range(5000))
        self.assert_behind(pair, stream, (1, 2, ((0, 0),)))

    def test_an_answer_follows_the_edits(self):
        pair = (once(), once())
        stream = ((0, 7), (0, 7))
        self.assert_behind(pair, stream, (2, 2, ()))
        pair[1].remove_rule(1, 0, 0)
        self.assert_behind(pair, stream, (2, 1, ()))
        pair[0].remove_rule(1, 0, 0)
        self.assert_behind(pair, stream, (1, 1, ((0, 0),)))

    def test_arguments_by_name(self):
        self.assertEqual(situation_behind(stream=((0, 7),), pair=(once(), once())), (1, 1, ((0, 0),)))


def teller(held):
    """A watcher whose state 1 holds so many values; word 0 tells which place it was, 0 to 2, and 3 for new."""
    watcher = Watcher(1)
    watcher.set_verdict(0, 0)
    watcher.add_state(0, held)
    for verdict in (1, 2, 3):
        watcher.add_state(verdict, 0)
    watcher.add_state(0, 0)
    for place in range(held):
        watcher.add_rule(1, 0, place, (5, 2, 3)[place], ())
    watcher.add_rule(1, 0, "new", 4, ())
    return watcher


class VerdictsFromTest(PairCase):
    def assert_verdicts(self, pair, situation, stream, wanted):
        self.assertEqual(kinds(self.assert_unchanged(pair, verdicts_from, situation, stream)), kinds(wanted))

    def test_the_example(self):
        self.assert_verdicts((once(), once()), (1, 1, ()), ((0, 1),), (0, 1))

    def test_the_empty_continuation(self):
        pair = (wide(), turning())
        for situation in all_situations(pair):
            self.assert_verdicts(
                pair, situation, (), (pair[0].verdicts()[situation[0]], pair[1].verdicts()[situation[1]]))

    def test_which_number_stands_for_which_place(self):
        # For each value the verdicts: 0, 1, 2 for the place with this number, 3 if it is held at none.
        for p_held, q_held, pairs, wanted in (
            (0, 0, (), {0: (3, 3), 1: (3, 3)}),
            (3, 0, (), {0: (0, 3), 1: (1, 3), 2: (2, 3), 3: (3, 3)}),
            (0, 3, (), {0: (3, 0), 1: (3, 1), 2: (3, 2), 3: (3, 3)}),
            (1, 1, (), {0: (0, 3), 1: (3, 0), 2: (3, 3)}),
            (1, 1, ((0, 0),), {0: (0, 0), 1: (3, 3)}),
            (2, 3, (), {0: (0, 3), 1: (1, 3), 2: (3, 0), 3: (3, 1), 4: (3, 2), 5: (3, 3)}),
            (2, 3, ((1, 0),), {0: (0, 3), 1: (1, 0), 2: (3, 1), 3: (3, 2), 4: (3, 3)}),
            (2, 3, ((1, 1),), {0: (0, 3), 1: (1, 1), 2: (3, 0), 3: (3, 2), 4: (3, 3)}),
            (2, 3, ((0, 2),), {0: (0, 2), 1: (1, 3), 2: (3, 0), 3: (3, 1), 4: (3, 3)}),
            (2, 3, ((0, 2), (1, 0)), {0: (0, 2), 1: (1, 0), 2: (3, 1), 3: (3, 3)}),
            (3, 2, ((1, 1),), {0: (0, 3), 1: (1, 1), 2: (2, 3), 3: (3, 0), 4: (3, 3)}),
            (3, 3, ((0, 1), (1, 2), (2, 0)), {0: (0, 1), 1: (1, 2), 2: (2, 0), 3: (3, 3)}),
            (3, 3, (), {0: (0, 3), 1: (1, 3), 2: (2, 3), 3: (3, 0), 4: (3, 1), 5: (3, 2), 6: (3, 3)}),
        ):
            pair = (teller(p_held), teller(q_held))
            for value in list(wanted) + [-1, -2, 7, 100, MOST, -MOST]:
                with self.subTest(held=(p_held, q_held), pairs=pairs, value=value):
                    self.assert_verdicts(pair, (1, 1, pairs), ((0, value),), wanted.get(value, (3, 3)))

    def test_values_that_come_again(self):
        pair = (once(), once())
        for value in (1, 2, -1, MOST):
            self.assert_verdicts(pair, (1, 2, ()), ((0, value), (0, value)), (1, 1))
            self.assert_verdicts(pair, (1, 0, ()), ((0, value), (0, value)), (1, 1))
            self.assert_verdicts(pair, (1, 0, ()), ((0, value),), (0, 0))
        self.assert_verdicts(pair, (1, 0, ()), ((0, 0), (0, 5)), (1, 0))
        self.assert_verdicts(pair, (1, 0, ()), ((0, 0), (0, 0)), (1, 1))

    def test_they_are_the_verdicts_behind_the_steps(self):
        chooser = random.Random(95)
        for pair in some_pairs(96, 40):
            for _ in range(5):
                p, q, pairs = situation = chooser.choice(list(all_situations(pair)))
                first = list(range(pair[0].held_counts()[p]))
                second = [None] * pair[1].held_counts()[q]
                for i, j in pairs:
                    second[j] = i
                free = len(first)
                for j, value in enumerate(second):
                    if value is None:
                        second[j], free = free, free + 1
                stream = some_stream(chooser, pair[0].words, range(-1, 8), 12)
                here, held = situation, (first, second)
                for end, (word, value) in enumerate(stream):
                    wanted = (pair[0].verdicts()[here[0]], pair[1].verdicts()[here[1]])
                    self.assert_verdicts(pair, situation, stream[:end], wanted)
                    here, held = self.follow(pair, here, held, word, value)

    def follow(self, pair, situation, held, word, value):
        """The told step of this message, and the values that both hold then."""
        tests = [row.index(value) if value in row else "new" for row in held]
        case = {
            (False, False): ("both", *tests), (False, True): ("first", tests[0]),
            (True, False): ("second", tests[1]), (True, True): ("new",),
        }[(tests[0] == "new", tests[1] == "new")]
        after = []
        for watcher, state, test, row in zip(pair, situation, tests, held):
            target, sources = watcher.rules().get((state, word, test), (state, tuple(range(len(row)))))
            after.append([value if source == "value" else row[source] for source in sources])
        return told_step(pair, situation, word, case), tuple(after)

    def test_from_the_start_they_are_those_of_the_streams(self):
        chooser = random.Random(97)
        for pair in some_pairs(98, 60):
            stream = some_stream(chooser, pair[0].words, (0, 1, 2, -5, MOST), 20)
            self.assert_verdicts(pair, START, stream, tuple(verdict_of(watcher, stream) for watcher in pair))

    def test_a_stream_goes_on_as_a_continuation_of_the_situation_behind_its_beginning(self):
        chooser = random.Random(99)
        for pair in some_pairs(100, 60):
            beginning = some_stream(chooser, pair[0].words, range(4), 8)
            more = some_stream(chooser, pair[0].words, range(6), 8)
            names = {}
            for watcher in pair:
                for value in run(watcher, beginning)[1]:
                    names.setdefault(value, len(names))
            for _, value in more:
                names.setdefault(value, -10 ** 50 - value)
            situation = situation_behind(pair, beginning)
            renamed = tuple((word, names[value]) for word, value in more)
            wanted = tuple(verdict_of(watcher, beginning + more) for watcher in pair)
            self.assert_verdicts(pair, situation, renamed, wanted)

    def test_an_answer_follows_the_edits(self):
        pair = (once(), once())
        self.assert_verdicts(pair, (1, 1, ()), ((0, 1),), (0, 1))
        pair[1].set_verdict(2, 3)
        self.assert_verdicts(pair, (1, 1, ()), ((0, 1),), (0, 3))
        pair[1].remove_rule(1, 0, 0)
        self.assert_verdicts(pair, (1, 1, ()), ((0, 1),), (0, 0))

    def test_arguments_by_name(self):
        self.assertEqual(verdicts_from(stream=((0, 1),), situation=(1, 1, ()), pair=(once(), once())), (0, 1))


if __name__ == "__main__":
    unittest.main()
