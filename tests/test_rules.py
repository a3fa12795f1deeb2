import copy
import random
import unittest
from itertools import permutations, product

from samples import DEEP, STRANGE, kinds, look, once, wide
from seenbefore.errors import (
    InvalidSources, InvalidTest, NotAWord, RuleExists, UnknownRule, UnknownState,
)
from seenbefore.watchers import Watcher


def good_rules(watcher):
    """Every rule that the watcher could have, in order, with all its sources."""
    held = watcher.held_counts()
    for state, word in product(range(len(watcher)), range(watcher.words)):
        for test in [*range(held[state]), "new"]:
            for target in range(len(watcher)):
                items = [*range(held[state]), "value"][:held[state] + (test == "new")]
                for sources in permutations(items, held[target]):
                    yield (state, word, test, target, sources)


class RulesCase(unittest.TestCase):
    def assert_refused(self, watcher, method, arguments, error, field, wanted):
        before = look(watcher)
        handed = copy.deepcopy(arguments)
        with self.assertRaises(error) as caught:
            getattr(watcher, method)(*arguments)
        self.assertEqual(kinds(getattr(caught.exception, field)), kinds(wanted))
        self.assertEqual(kinds(look(watcher)), kinds(before))
        self.assertEqual(kinds(arguments), kinds(handed))


class AddRuleTest(RulesCase):
    def test_the_example(self):
        watcher = Watcher(1)
        holding, twice = watcher.add_state(0, 1), watcher.add_state(1, 0)
        self.assertEqual((holding, twice), (1, 2))
        self.assertIsNone(watcher.add_rule(0, 0, "new", holding, ("value",)))
        self.assertIsNone(watcher.add_rule(holding, 0, 0, twice, ()))
        self.assertIsNone(watcher.add_rule(holding, 0, "new", holding, ("value",)))
        self.assertEqual(
            repr(watcher.rules()),
            "{(0, 0, 'new'): (1, ('value',)), (1, 0, 0): (2, ()), (1, 0, 'new'): (1, ('value',))}",
        )

    def test_every_good_rule_is_taken(self):
        watcher = wide()
        many = 0
        for state, word, test, target, sources in good_rules(watcher):
            self.assertIsNone(watcher.add_rule(state, word, test, target, sources))
            self.assertEqual(kinds(watcher.rules()), kinds({(state, word, test): (target, sources)}))
            self.assertIsNone(watcher.remove_rule(state, word, test))
            self.assertEqual(watcher.rules(), {})
            many += 1
        self.assertGreater(many, 200)

    def test_just_the_good_sources_are_taken(self):
        watcher = wide()
        good = set(good_rules(watcher))
        items = (-1, 0, 1, 2, 3, "value", "new", None)
        rows = [row for many in range(4) for row in product(items, repeat=many)]
        for state, target in product(range(4), range(4)):
            for test in [*range(state), "new"]:
                for sources in rows:
                    arguments = (state, 2, test, target, sources)
                    if arguments in good:
                        watcher.add_rule(*arguments)
                        watcher.remove_rule(*arguments[:3])
                    else:
                        with self.assertRaises(InvalidSources) as caught:
                            watcher.add_rule(*arguments)
                        self.assertIs(caught.exception.sources, sources)
        self.assertEqual(watcher.rules(), {})

    def test_unknown_states_are_refused(self):
        watcher = wide()
        for state in STRANGE + (4, 5, 6, DEEP):
            with self.subTest(state=state):
                self.assert_refused(
                    watcher, "add_rule", (state, 0, "new", 0, ()), UnknownState, "state", state)
                self.assert_refused(
                    watcher, "add_rule", (0, 0, "new", state, ()), UnknownState, "state", state)

    def test_unknown_words_are_refused(self):
        for words in (1, 2, 3):
            watcher = Watcher(words)
            for word in STRANGE + (words, words + 1, 3, DEEP):
                with self.subTest(words=words, word=word):
                    self.assert_refused(watcher, "add_rule", (0, word, "new", 0, ()), NotAWord, "word", word)
            for word in range(words):
                watcher.add_rule(0, word, "new", 0, ())
            self.assertEqual(len(watcher.rules()), words)

    def test_wrong_tests_are_refused(self):
        watcher = wide()
        strange = [test for test in STRANGE if test != "new"] + ["News", "new ", "NEW", ["new"], ("new",), DEEP]
        for state in range(4):
            for test in strange + [state, state + 1, 3]:
                with self.subTest(state=state, test=test):
                    self.assert_refused(watcher, "add_rule", (state, 0, test, 0, ()), InvalidTest, "test", test)

    def test_wrong_sources_are_refused(self):
        watcher = wide()
        strange = [value for value in STRANGE if value != ()] + [DEEP, (DEEP,), (None,), (0, 0, 0, 0), [1, 0]]
        for sources in strange:
            with self.subTest(sources=sources):
                self.assert_refused(
                    watcher, "add_rule", (2, 0, "new", 0, sources), InvalidSources, "sources", sources)
        for sources in [value for value in STRANGE if value not in ((0,), (1,))] + [DEEP, (DEEP,), [1], [0]]:
            with self.subTest(sources=sources):
                self.assert_refused(
                    watcher, "add_rule", (2, 0, "new", 1, sources), InvalidSources, "sources", sources)

    def test_wrong_single_sources_are_refused(self):
        watcher = wide()
        for source in [value for value in STRANGE if value != "value"] + ["values", 2, 3, ("value",), DEEP]:
            for sources in ((source, 0), (1, source)):
                with self.subTest(sources=sources):
                    self.assert_refused(
                        watcher, "add_rule", (2, 0, "new", 2, sources), InvalidSources, "sources", sources)

    def test_value_only_with_new(self):
        watcher = wide()
        for test in (0, 1):
            for sources in (("value", 0), (0, "value"), ("value", 1), (1, "value")):
                self.assert_refused(
                    watcher, "add_rule", (2, 1, test, 2, sources), InvalidSources, "sources", sources)
            watcher.add_rule(2, 1, test, 2, (1, 0))
        watcher.add_rule(2, 1, "new", 2, ("value", 0))
        self.assertEqual(list(watcher.rules()), [(2, 1, 0), (2, 1, 1), (2, 1, "new")])

    def test_sources_twice_the_same_too_few_too_many(self):
        watcher = wide()
        for sources in ((), (0,), (0, 0), (1, 1), ("value", "value"), (0, 1, 2), (0, 1, "value"), (0, 2), (-1, 0)):
            self.assert_refused(
                watcher, "add_rule", (2, 1, "new", 2, sources), InvalidSources, "sources", sources)
        for sources in (("value",), (0,)):
            self.assert_refused(watcher, "add_rule", (0, 1, "new", 0, sources), InvalidSources, "sources", sources)
        self.assert_refused(watcher, "add_rule", (0, 1, "new", 1, (0,)), InvalidSources, "sources", (0,))
        self.assert_refused(
            watcher, "add_rule", (2, 1, "new", 3, (0, 1, 0)), InvalidSources, "sources", (0, 1, 0))

    def test_a_second_rule_is_refused(self):
        watcher = once()
        for state, test, target, sources in (
            (0, "new", 1, ("value",)), (0, "new", 0, ()), (1, 0, 2, ()), (1, 0, 1, (0,)), (1, "new", 1, (0,)),
        ):
            rule = (state, 0, test)
            self.assert_refused(
                watcher, "add_rule", (state, 0, test, target, sources), RuleExists, "rule", rule)

    def test_the_error_listed_first_is_raised(self):
        watcher = once()
        good = [1, 0, 0, 1, (0,)]
        faults = (
            (0, 3, UnknownState, "state", 3),
            (3, 4, UnknownState, "state", 4),
            (1, 1, NotAWord, "word", 1),
            (2, 1, InvalidTest, "test", 1),
            (4, ("value",), InvalidSources, "sources", ("value",)),
        )
        for chosen in product((False, True), repeat=len(faults)):
            wrong = [fault for fault, wanted in zip(faults, chosen) if wanted]
            arguments = list(good)
            for at, value, _, _, _ in wrong:
                arguments[at] = value
            with self.subTest(arguments=arguments):
                _, _, error, field, value = (wrong + [(None, None, RuleExists, "rule", (1, 0, 0))])[0]
                self.assert_refused(watcher, "add_rule", tuple(arguments), error, field, value)

    def test_the_very_values_are_in_the_errors(self):
        watcher = wide()
        value = [{"a": (1,)}]
        for arguments, error, field in (
            ((value, 0, "new", value, ()), UnknownState, "state"),
            ((0, 0, "new", value, ()), UnknownState, "state"),
            ((0, value, "new", 0, ()), NotAWord, "word"),
            ((0, 0, value, 0, ()), InvalidTest, "test"),
            ((0, 0, "new", 0, value), InvalidSources, "sources"),
        ):
            with self.assertRaises(error) as caught:
                watcher.add_rule(*arguments)
            self.assertIs(getattr(caught.exception, field), value)

    def test_arguments_by_name(self):
        watcher = wide()
        watcher.add_rule(sources=("value", 0), target=2, test="new", word=2, state=1)
        self.assertEqual(watcher.rules(), {(1, 2, "new"): (2, ("value", 0))})
        with self.assertRaises(RuleExists) as caught:
            watcher.add_rule(1, 2, sources=(), test="new", target=0)
        self.assertEqual(caught.exception.rule, (1, 2, "new"))
        self.assertIsNone(watcher.remove_rule(test="new", state=1, word=2))
        self.assertEqual(watcher.rules(), {})


class RemoveRuleTest(RulesCase):
    def test_a_rule_is_taken_away_and_put_in_again(self):
        watcher = once()
        self.assertIsNone(watcher.remove_rule(1, 0, 0))
        self.assertEqual(list(watcher.rules()), [(0, 0, "new"), (1, 0, "new")])
        self.assert_refused(watcher, "remove_rule", (1, 0, 0), UnknownRule, "rule", (1, 0, 0))
        watcher.add_rule(1, 0, 0, 1, (0,))
        self.assertEqual(
            list(watcher.rules().items()),
            [((0, 0, "new"), (1, ("value",))), ((1, 0, 0), (1, (0,))), ((1, 0, "new"), (1, ("value",)))],
        )
        watcher.remove_rule(1, 0, 0)
        watcher.add_rule(1, 0, 0, 2, ())
        self.assertEqual(look(watcher), look(once()))

    def test_only_the_named_rule_goes(self):
        for rule in once().rules():
            watcher = once()
            watcher.remove_rule(*rule)
            wanted = [item for item in once().rules().items() if item[0] != rule]
            self.assertEqual(list(watcher.rules().items()), wanted)

    def test_unknown_rules_are_refused(self):
        watcher = wide()
        for test in (0, 1, "new"):
            watcher.add_rule(2, 1, test, 0, ())
        for value in STRANGE + (0, 2, 3, 6, DEEP):
            for rule in ((value, 1, 1), (2, value, 1), (2, 1, value), (value, value, value)):
                if kinds(rule) in [kinds(known) for known in watcher.rules()]:
                    continue
                with self.subTest(rule=rule):
                    self.assert_refused(watcher, "remove_rule", rule, UnknownRule, "rule", rule)

    def test_booleans_are_no_integers(self):
        watcher = wide()
        watcher.add_rule(0, 0, "new", 0, ())
        watcher.add_rule(1, 1, 0, 0, ())
        watcher.add_rule(2, 1, 1, 0, ())
        for rule in ((False, 0, "new"), (0, False, "new"), (True, 1, 0), (1, True, 0), (1, 1, False), (2, 1, True)):
            self.assert_refused(watcher, "remove_rule", rule, UnknownRule, "rule", rule)

    def test_good_rules_that_are_not_there(self):
        watcher = once()
        for rule in ((0, 0, 0), (1, 0, 1), (2, 0, "new"), (1, 1, 0), (3, 0, "new")):
            self.assert_refused(watcher, "remove_rule", rule, UnknownRule, "rule", rule)


class RulesTest(RulesCase):
    def test_rules_are_in_order_however_they_were_put_in(self):
        wanted = []
        for state, word, test, target, sources in good_rules(wide()):
            if not wanted or wanted[-1][0] != (state, word, test):
                wanted.append(((state, word, test), (target, sources)))
        self.assertEqual(len(wanted), 30)
        self.assertEqual([rule[2] for rule, _ in wanted[-4:]], [0, 1, 2, "new"])
        shuffler = random.Random(5)
        orders = [wanted, wanted[::-1], *[shuffler.sample(wanted, 30) for _ in range(20)]]
        for order in orders:
            watcher = wide()
            for (state, word, test), (target, sources) in order:
                watcher.add_rule(state, word, test, target, sources)
            self.assertEqual(list(watcher.rules().items()), wanted)
            self.assertEqual(list(watcher.twin().rules().items()), wanted)

    def test_words_come_before_tests(self):
        watcher = wide()
        for rule in ((1, 1, 0), (1, 0, "new"), (0, 2, "new"), (1, 0, 0), (1, 1, "new")):
            watcher.add_rule(*rule, 0, ())
        self.assertEqual(
            list(watcher.rules()), [(0, 2, "new"), (1, 0, 0), (1, 0, "new"), (1, 1, 0), (1, 1, "new")])

    def test_a_returned_dict_is_the_callers_own(self):
        watcher = once()
        before = look(watcher)
        self.assertIsNot(watcher.rules(), watcher.rules())
        rules = watcher.rules()
        rules[(1, 0, 0)] = (0, ())
        del rules[(0, 0, "new")]
        rules[(2, 0, "new")] = (2, ())
        self.assertEqual(look(watcher), before)
        watcher.remove_rule(0, 0, "new")
        watcher.add_rule(2, 0, "new", 2, ())
        self.assertEqual(watcher.rules()[(1, 0, 0)], (2, ()))

    def test_a_returned_dict_does_not_follow_the_watcher(self):
        watcher = once()
        rules = watcher.rules()
        watcher.remove_rule(1, 0, 0)
        self.assertEqual(len(rules), 3)

    def test_verdicts_and_held_counts_are_tuples(self):
        self.assertEqual(kinds(once().verdicts()), kinds((0, 0, 1)))
        self.assertEqual(kinds(once().held_counts()), kinds((0, 1, 0)))
        self.assertEqual(kinds(Watcher(2).rules()), kinds({}))

    def test_a_watcher_is_its_own(self):
        one, two = once(), once()
        one.remove_rule(1, 0, 0)
        one.set_verdict(1, 3)
        one.add_state(1, 1)
        self.assertEqual(look(two), look(once()))


if __name__ == "__main__":
    unittest.main()
