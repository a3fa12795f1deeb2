import random
import unittest
from collections import Counter

from samples import DEEP, STRANGE, alike_pairs, any_watcher, kinds, look, once, some_pairs, turning, wide
from seenbefore.checker import first_fault
from seenbefore.claims import decide
from seenbefore.errors import (
    InvalidClaim, InvalidSources, InvalidTest, LimitExceeded, NotAVerdict, NotAWord, RuleExists, UnknownCheckpoint,
    UnknownRecord, UnknownRule, UnknownState, Unpaired,
)
from seenbefore.sessions import Session
from seenbefore.watchers import Watcher
from told import claims_about, some_claims, told_fault

NO_NUMBERS = STRANGE + (DEEP,)


def seen(session):
    """Everything that can be seen of the watchers of a session."""
    return [look(watcher) for watcher in session.pair()]


def looks(pair):
    return [look(watcher) for watcher in pair]


class SessionCase(unittest.TestCase):
    def assert_raises(self, error, name, value, call, *arguments):
        with self.assertRaises(error) as caught:
            call(*arguments)
        self.assertEqual(kinds(getattr(caught.exception, name)), kinds(value))


class TwinsTest(SessionCase):
    def test_unlike_numbers_of_words(self):
        for pair in ((once(), wide()), (wide(), once()), (Watcher(1), Watcher(2))):
            with self.assertRaises(Unpaired):
                Session(pair)
            with self.assertRaises(Unpaired):
                Session(pair=pair)

    def test_it_keeps_twins(self):
        pair = (turning(), any_watcher(random.Random(603), 3, 3))
        rule = list(pair[1].rules())[0]
        before = looks(pair)
        session = Session(pair)
        self.assertEqual(seen(session), before)
        pair[0].set_verdict(0, 3)
        pair[1].remove_rule(*rule)
        self.assertEqual(seen(session), before)
        after = looks(pair)
        session.add_state("A", 2, 2)
        session.set_verdict("B", 0, 2)
        session.remove_rule("B", *rule)
        self.assertEqual(looks(pair), after)

    def test_pair_returns_twins(self):
        session = Session((once(), once()))
        before = seen(session)
        given = session.pair()
        self.assertEqual((type(given), len(given)), (tuple, 2))
        for watcher in given:
            watcher.set_verdict(0, 3)
            watcher.add_state(1, 1)
        self.assertEqual(seen(session), before)
        given = session.pair()
        session.set_verdict("A", 0, 2)
        session.remove_rule("B", 1, 0, 0)
        self.assertEqual(looks(given), before)

    def test_one_watcher_as_both_sides(self):
        one = once()
        session = Session((one, one))
        session.set_verdict("A", 2, 3)
        self.assertEqual([watcher.verdicts() for watcher in session.pair()], [(0, 0, 3), (0, 0, 1)])
        session.remove_rule("B", 0, 0, "new")
        self.assertEqual([len(watcher.rules()) for watcher in session.pair()], [3, 2])
        self.assertIsNot(*session.pair())
        self.assertEqual(look(one), look(once()))

    def test_two_sessions_of_one_pair(self):
        pair = (once(), once())
        one, two = Session(pair), Session(pair)
        one.set_verdict("A", 2, 0)
        one.checkpoint()
        one.record(("alike",))
        self.assertEqual(seen(two), looks(pair))
        self.assertEqual(two.checkpoint(), 0)
        self.assert_raises(UnknownRecord, "number", 0, two.recorded, 0)
        self.assertEqual(two.record(("never", "A", 1)), 0)
        self.assertEqual(one.recorded(0)[1], ("alike",))
        two.restore(0)
        self.assertEqual(one.pair()[0].verdicts(), (0, 0, 0))

    def test_a_session_of_the_pair_of_a_session(self):
        one = Session((once(), once()))
        two = Session(one.pair())
        two.set_verdict("A", 0, 3)
        self.assertEqual(seen(one), looks((once(), once())))


class EditsTest(SessionCase):
    def test_edits_of_each_side(self):
        session = Session((Watcher(1), Watcher(1)))
        self.assertEqual(session.add_state("A", 0, 1), 1)
        self.assertEqual(session.add_state("A", 1, 0), 2)
        self.assertEqual(session.add_state("B", 3, 3), 1)
        self.assertIsNone(session.add_rule("A", 0, 0, "new", 1, ("value",)))
        self.assertIsNone(session.add_rule("A", 1, 0, 0, 2, ()))
        self.assertIsNone(session.add_rule("A", 1, 0, "new", 1, ("value",)))
        self.assertEqual(look(session.pair()[0]), look(once()))
        self.assertIsNone(session.set_verdict("B", 1, 2))
        self.assertIsNone(session.add_rule("B", 1, 0, 2, 1, (2, 1, 0)))
        self.assertEqual(look(session.pair()[1])[2:], ((0, 2), (0, 3), [((1, 0, 2), (1, (2, 1, 0)))]))
        self.assertIsNone(session.remove_rule("B", 1, 0, 2))
        self.assertEqual(session.pair()[1].rules(), {})
        self.assertEqual(look(session.pair()[0]), look(once()))

    def test_refused_edits(self):
        session = Session((once(), once()))
        for _ in range(3):
            session.add_state("A", 0, 0)
        before = seen(session)
        for side in "AB":
            for error, name, value, call, *arguments in (
                (NotAVerdict, "verdict", 4, session.add_state, 4, 9),
                (LimitExceeded, "limit", 3, session.add_state, 0, 4),
                (UnknownState, "state", 6, session.set_verdict, 6, 9),
                (NotAVerdict, "verdict", 9, session.set_verdict, 0, 9),
                (UnknownState, "state", 9, session.add_rule, 9, 9, 9, 8, 9),
                (UnknownState, "state", 8, session.add_rule, 0, 9, 9, 8, 9),
                (NotAWord, "word", 9, session.add_rule, 0, 9, 9, 0, 9),
                (InvalidTest, "test", 0, session.add_rule, 0, 0, 0, 0, 9),
                (InvalidSources, "sources", (0,), session.add_rule, 0, 0, "new", 1, (0,)),
                (RuleExists, "rule", (0, 0, "new"), session.add_rule, 0, 0, "new", 0, ()),
                (UnknownRule, "rule", (0, 0, 0), session.remove_rule, 0, 0, 0),
            ):
                self.assert_raises(error, name, value, call, side, *arguments)
        self.assert_raises(LimitExceeded, "limit", 6, session.add_state, "A", 0, 0)
        self.assertEqual(seen(session), before)
        self.assertEqual(session.add_state("B", 0, 0), 3)

    def test_values_of_any_kind_do_what_they_do_to_the_watcher(self):
        chooser = random.Random(601)
        for pair in some_pairs(602, 12):
            session = Session(pair)
            plain = [watcher.twin() for watcher in pair]
            for _ in range(120):
                some_edit(self, chooser, session, plain)
            self.assertEqual(kinds(seen(session)), kinds(looks(plain)))

    def test_arguments_by_name(self):
        session = Session(pair=(Watcher(1), Watcher(1)))
        self.assertEqual(session.add_state(held=1, verdict=2, side="B"), 1)
        session.set_verdict(verdict=3, state=0, side="A")
        session.add_rule(sources=("value",), target=1, test="new", word=0, state=0, side="B")
        self.assertEqual(session.pair()[1].rules(), {(0, 0, "new"): (1, ("value",))})
        session.remove_rule(test="new", word=0, state=0, side="B")
        self.assertEqual(session.pair()[1].rules(), {})
        self.assertEqual(session.pair()[0].verdicts(), (3,))


def some_edit(case, chooser, session, plain):
    """One edit by chance, of the session and of plain watchers: both answer alike."""
    side = chooser.choice("AB")
    watcher = plain["AB".index(side)]
    numbers = [0, 0, 1, 1, 2, 2, 3, 4, 5, 6, -1, "new", True, None, chooser.choice(NO_NUMBERS)]
    states = [*range(len(watcher))] * 3 + numbers
    sources = [(), (), ("value",), (0,), (1, 0), (0, "value"), (2, 0, 1), [0], chooser.choice(NO_NUMBERS)]
    name, arguments = chooser.choice((
        ("add_state", (chooser.choice(numbers), chooser.choice(numbers))),
        ("set_verdict", (chooser.choice(states), chooser.choice(numbers))),
        ("add_rule", (chooser.choice(states), chooser.choice([0, 0, *numbers]), chooser.choice(["new", *numbers]),
                      chooser.choice(states), chooser.choice(sources))),
        ("add_rule", (chooser.choice(states), 0, "new", chooser.choice(states), chooser.choice(sources))),
        ("remove_rule", chooser.choice([*watcher.rules(), (chooser.choice(states), 0, chooser.choice(numbers))])),
    ))
    answers = []
    for call in (lambda: getattr(session, name)(side, *arguments), lambda: getattr(watcher, name)(*arguments)):
        try:
            answers.append(("returned", call()))
        except (ValueError, LookupError, RuntimeError, OverflowError) as error:
            answers.append((type(error).__name__, kinds(vars(error))))
    case.assertEqual(answers[0], answers[1])


class CheckpointsTest(SessionCase):
    def test_numbers_in_order_and_at_most_8(self):
        session = Session((once(), once()))
        for number in range(8):
            session.set_verdict("A", 0, number % 4)
            self.assertEqual(kinds(session.checkpoint()), kinds(number))
        for _ in range(2):
            self.assert_raises(LimitExceeded, "limit", 8, session.checkpoint)
        for number in (7, 0, 3, 3, 5):
            session.restore(number)
            self.assertEqual(session.pair()[0].verdicts(), (number % 4, 0, 1))
            self.assert_raises(LimitExceeded, "limit", 8, session.checkpoint)

    def test_restores_in_any_order_and_twice(self):
        session = Session((once(), once()))
        kept = []
        for verdict in (1, 2, 3):
            kept.append(seen(session))
            session.checkpoint()
            session.set_verdict("A", 0, verdict)
            session.add_state("B", verdict, verdict)
            session.remove_rule("A", *list(session.pair()[0].rules())[-1])
        for number in (2, 0, 0, 1, 2, 1, 0):
            self.assertIsNone(session.restore(number))
            self.assertEqual(kinds(seen(session)), kinds(kept[number]))

    def test_edits_behind_a_restore_do_not_touch_the_checkpoint(self):
        session = Session((once(), once()))
        session.checkpoint()
        for _ in range(2):
            session.restore(0)
            self.assertEqual(seen(session), looks((once(), once())))
            session.set_verdict("A", 0, 3)
            session.remove_rule("B", 0, 0, "new")
            session.add_state("B", 0, 3)
            for watcher in session.pair():
                watcher.set_verdict(0, 1)

    def test_later_checkpoints_stay(self):
        session = Session((once(), once()))
        session.checkpoint()
        session.set_verdict("A", 0, 1)
        session.checkpoint()
        session.set_verdict("A", 0, 2)
        session.restore(0)
        self.assertEqual(session.checkpoint(), 2)
        session.restore(1)
        self.assertEqual(session.pair()[0].verdicts()[0], 1)
        session.restore(2)
        self.assertEqual(session.pair()[0].verdicts()[0], 0)

    def test_checkpoints_that_there_are_not(self):
        session = Session((once(), once()))
        self.assert_raises(UnknownCheckpoint, "number", 0, session.restore, 0)
        session.checkpoint()
        session.checkpoint()
        session.set_verdict("A", 0, 3)
        before = seen(session)
        for number in NO_NUMBERS + (2, 8, -1, -2):
            self.assert_raises(UnknownCheckpoint, "number", number, session.restore, number)
        self.assertEqual(seen(session), before)
        self.assertIsNone(session.restore(number=1))
        self.assertNotEqual(seen(session), before)

    def test_restoring_changes_nothing_else(self):
        session = Session((once(), once()))
        session.checkpoint()
        session.record(("alike",))
        session.set_verdict("A", 2, 3)
        session.checkpoint()
        session.record(("never", "A", 1))
        records = [session.recorded(0), session.recorded(1)]
        session.restore(0)
        self.assertEqual([session.recorded(0), session.recorded(1)], records)
        self.assertEqual([session.standing(0), session.standing(1)], [True, False])
        self.assertEqual(session.record(("alike",)), 2)
        session.restore(1)
        self.assertEqual([session.standing(number) for number in range(3)], [False, True, False])
        self.assertEqual(session.checkpoint(), 2)


class RecordsTest(SessionCase):
    def test_the_example(self):
        session = Session((once(), Watcher(1)))
        self.assertEqual(session.record(("never", "B", 1)), 0)
        self.assertIs(session.standing(0), True)
        session.set_verdict("B", 0, 1)
        self.assertIs(session.standing(0), False)

    def test_numbers_in_order_and_at_most_16(self):
        session = Session((once(), once()))
        claims = list(claims_about((once(), once())))[:16]
        for number, claim in enumerate(claims):
            self.assertEqual(kinds(session.record(claim)), kinds(number))
        for value in (("alike",), None, ("never", "A", 4), [], DEEP):
            self.assert_raises(LimitExceeded, "limit", 16, session.record, value)
        self.assertEqual([session.recorded(number)[1] for number in range(16)], claims)

    def test_it_decides_and_keeps_the_certificate(self):
        for number, pair in enumerate(some_pairs(611, 15) + alike_pairs(612, 10)):
            session = Session(pair)
            for at, claim in enumerate(some_claims(number, pair, 16)):
                before = seen(session)
                certificate = decide(pair, claim)
                self.assertEqual(kinds(session.decide(claim)), kinds(certificate))
                self.assertEqual(session.record(claim), at)
                self.assertEqual(kinds(session.recorded(at)), kinds(certificate))
                self.assertIs(session.standing(at), True)
                self.assertEqual(seen(session), before)

    def test_wrong_claims_are_not_recorded(self):
        session = Session((once(), once()))
        session.record(("alike",))
        for value in NO_NUMBERS + (("alike", 3, 0, ()), ("never", "A", True), ["alike"], ("unneeded", "A", 1, 1)):
            with self.assertRaises(InvalidClaim):
                session.record(value)
            with self.assertRaises(InvalidClaim):
                session.decide(value)
        self.assertEqual(session.record(("alike",)), 1)

    def test_records_that_there_are_not(self):
        session = Session((once(), once()))
        self.assert_raises(UnknownRecord, "number", 0, session.recorded, 0)
        self.assert_raises(UnknownRecord, "number", 0, session.standing, 0)
        session.record(("alike",))
        session.record(("never", "A", 3))
        for number in NO_NUMBERS + (2, 16, -1, -2):
            self.assert_raises(UnknownRecord, "number", number, session.recorded, number)
            self.assert_raises(UnknownRecord, "number", number, session.standing, number)
        self.assertEqual(session.recorded(number=1)[1], ("never", "A", 3))
        self.assertIs(session.standing(number=1), True)

    def test_recorded_is_the_same_for_ever(self):
        session = Session((once(), once()))
        session.checkpoint()
        session.record(("alike",))
        session.record(("least", "A"))
        first = [session.recorded(0), session.recorded(1)]
        for edit in (lambda: session.set_verdict("A", 2, 0), lambda: session.remove_rule("B", 0, 0, "new"),
                     lambda: session.add_state("B", 0, 3), lambda: session.restore(0),
                     lambda: session.record(("alike",))):
            edit()
            self.assertEqual(kinds([session.recorded(0), session.recorded(1)]), kinds(first))

    def test_it_stands_again_when_an_edit_is_taken_back(self):
        session = Session((once(), once()))
        session.record(("alike",))
        session.record(("unneeded", "A", 1, 0))
        session.record(("least", "B"))
        for edit, standing in (
            (lambda: session.set_verdict("A", 2, 3), [False, True, True]),
            (lambda: session.set_verdict("B", 2, 3), [True, True, True]),
            (lambda: session.remove_rule("A", 1, 0, 0), [False, False, True]),
            (lambda: session.add_rule("A", 1, 0, 0, 2, ()), [True, True, True]),
            (lambda: session.add_state("B", 0, 0), [True, True, False]),
        ):
            edit()
            self.assertEqual([session.standing(number) for number in range(3)], standing)

    def test_restores_with_fewer_states_and_places(self):
        session = Session((once(), once()))
        session.checkpoint()
        session.add_state("A", 0, 2)
        session.add_state("B", 0, 2)
        session.checkpoint()
        claims = [("unneeded", "A", 3, 1), ("swap", "B", 3, 0, 1), ("alike", 3, 3, ((0, 1),)), ("alike", 3, 0, ()),
                  ("least", "A"), ("alike",)]
        for claim in claims:
            session.record(claim)
        self.assertEqual([session.standing(number) for number in range(6)], [True] * 6)
        session.restore(0)
        self.assertEqual([session.standing(number) for number in range(6)], [False] * 5 + [True])
        with self.assertRaises(InvalidClaim):
            session.record(claims[0])
        session.add_state("A", 0, 1)
        session.add_state("B", 0, 1)
        self.assertEqual([session.standing(number) for number in range(6)], [False, False, False, True, True, True])
        session.restore(1)
        self.assertEqual([session.standing(number) for number in range(6)], [True] * 6)
        self.assertEqual([session.recorded(number)[1] for number in range(6)], claims)

    def test_arguments_by_name(self):
        session = Session((once(), once()))
        self.assertEqual(session.decide(claim=("alike",)), decide((once(), once()), ("alike",)))
        self.assertEqual(session.record(claim=("alike",)), 0)


class Model:
    """What a session should be: plain lists of what was done."""

    def __init__(self, pair):
        self.watchers = [watcher.twin() for watcher in pair]
        self.checkpoints = []
        self.records = []


class HistoriesTest(SessionCase):
    def test_two_sessions_by_turns(self):
        found = Counter()
        for number, pair in enumerate(some_pairs(621, 25, 3) + alike_pairs(622, 15, 3) + [(turning(), turning())]):
            chooser = random.Random(number)
            sessions = [(Session(pair), Model(pair)) for _ in range(2)]
            for _ in range(150):
                session, model = chooser.choice(sessions)
                self.do_something(chooser, session, model)
                for each, told in sessions:
                    self.assertEqual(kinds(seen(each)), kinds(looks(told.watchers)))
            for session, model in sessions:
                self.assert_records(session, model, found)
        self.assertGreater(min(found[True], found[False]), 100)

    def do_something(self, chooser, session, model):
        what = chooser.random()
        if what < 0.55:
            some_edit(self, chooser, session, model.watchers)
        elif what < 0.65:
            if len(model.checkpoints) < 8:
                self.assertEqual(session.checkpoint(), len(model.checkpoints))
                model.checkpoints.append([watcher.twin() for watcher in model.watchers])
            else:
                self.assert_raises(LimitExceeded, "limit", 8, session.checkpoint)
        elif what < 0.75:
            number = chooser.randint(-1, 8)
            if 0 <= number < len(model.checkpoints):
                session.restore(number)
                model.watchers = [watcher.twin() for watcher in model.checkpoints[number]]
            else:
                self.assert_raises(UnknownCheckpoint, "number", number, session.restore, number)
        elif what < 0.95:
            self.record_something(chooser, session, model)
        else:
            self.assert_records(session, model, Counter())

    def record_something(self, chooser, session, model):
        claim = chooser.choice(some_claims(chooser.random(), tuple(model.watchers), 6))
        certificate = decide(tuple(model.watchers), claim)
        self.assertEqual(kinds(session.decide(claim)), kinds(certificate))
        self.assertIsNone(first_fault(session.pair(), certificate))
        if len(model.records) < 16:
            self.assertEqual(session.record(claim), len(model.records))
            model.records.append(certificate)
        else:
            self.assert_raises(LimitExceeded, "limit", 16, session.record, claim)

    def assert_records(self, session, model, found):
        """Each record is what it was, and stands exactly if it should."""
        for number, certificate in enumerate(model.records):
            self.assertEqual(kinds(session.recorded(number)), kinds(certificate))
            standing = told_fault(tuple(model.watchers), certificate) is None
            self.assertIs(session.standing(number), standing)
            found[standing] += 1
        self.assert_raises(UnknownRecord, "number", len(model.records), session.recorded, len(model.records))


if __name__ == "__main__":
    unittest.main()
