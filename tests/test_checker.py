import copy
import random
import unittest
from collections import Counter

from samples import (
    DEEP, MOST, STRANGE, alike_pairs, any_watcher, built, changed, kinds, look, once, some_pairs, some_stream,
    turning, wide,
)
from seenbefore.checker import first_fault
from seenbefore.claims import decide
from seenbefore.errors import Unpaired
from seenbefore.watchers import Watcher
from told import (
    START, all_situations, claims_about, some_claims, told_closure, told_comparison, told_fault, told_least,
    told_parts, told_places, told_steps, told_verdict, verdicts_of,
)

FORM = ("form",)
TABLE = (START, (1, 1, ((0, 0),)), (2, 2, ()))


class FaultCase(unittest.TestCase):
    def fault(self, pair, certificate):
        """The fault, which is new each time, of the kinds that are told, and changes nothing."""
        before = [look(watcher) for watcher in pair]
        handed = kinds(copy.deepcopy(certificate))
        fault = first_fault(pair, certificate)
        self.assertEqual(kinds(first_fault(pair, certificate)), kinds(fault))
        self.assertEqual(kinds(certificate), handed)
        self.assertEqual([look(watcher) for watcher in pair], before)
        return fault

    def assert_fault(self, pair, certificate, wanted):
        self.assertEqual(kinds(self.fault(pair, certificate)), kinds(wanted))

    def assert_right(self, pair, certificate):
        self.assertIsNone(self.fault(pair, certificate))


class RightCertificatesTest(FaultCase):
    def test_all_that_decide_returns(self):
        one = turning()
        found = Counter()
        for number, pair in enumerate([(one, one), (turning(), wide())] + some_pairs(201, 60) + alike_pairs(202, 40)):
            for claim in some_claims(number, pair, 12):
                certificate = decide(pair, claim)
                self.assert_right(pair, certificate)
                found[(claim[0], certificate[0])] += 1
        self.assertEqual(len(found), 12)

    def test_they_are_right_for_equal_watchers_too(self):
        for number, pair in enumerate(some_pairs(203, 15) + alike_pairs(204, 15)):
            twins = (pair[0].twin(), pair[1].twin())
            for claim in some_claims(number, pair, 8):
                self.assert_right(twins, decide(pair, claim))

    def test_all_claims_about_one_pair(self):
        pair = (once(), turning_back())
        for claim in [*claims_about(pair), *(("alike", *situation) for situation in all_situations(pair))]:
            self.assert_right(pair, decide(pair, claim))


def turning_back():
    """A watcher with one word whose state 2 holds two values and exchanges them."""
    return built(1, [(0, 1), (1, 2), (2, 0)], [
        (0, 0, "new", 1, ("value",)), (1, 0, "new", 2, ("value", 0)), (2, 0, 0, 2, (1, 0)), (2, 0, 1, 3, ())])


class FormTest(FaultCase):
    def test_any_other_value(self):
        pair = (once(), once())
        for value in STRANGE + (DEEP,):
            self.assert_fault(pair, value, FORM)
            self.assert_fault(pair, (value,), FORM)
            self.assert_fault(pair, ("shown", value), FORM)
            self.assert_fault(pair, ("shown", ("alike",), TABLE, value), FORM)
            self.assert_fault(pair, (value, ("alike",), TABLE), FORM)
            self.assert_fault(pair, ("shown", value, TABLE), FORM)
            if value not in ((), ((0, 0),)):
                self.assert_fault(pair, ("shown", ("alike",), value), FORM)
                self.assert_fault(pair, ("broken", ("alike",), value), FORM)
            self.assert_fault(pair, ("broken", ("least", "A"), value), FORM)
            self.assert_fault(pair, ("shown", ("least", "A"), value), FORM)
        for value in ((), [], ("shown", ("alike",)), ["shown", ("alike",), TABLE], ("Shown", ("alike",), TABLE),
                      ("", ("alike",), TABLE), ("alike", "shown", TABLE), (TABLE, ("alike",), "shown")):
            self.assert_fault(pair, value, FORM)

    def test_many_parts(self):
        pair = (once(), once())
        self.assert_fault(pair, ("broken", ("alike",), ((0, 7),) * 6000), ("verdicts",))
        self.assert_fault(pair, ("broken", ("alike",), ((0, 7),) * 6000 + ((1, 7),)), FORM)
        self.assert_fault(pair, ("shown", ("alike",), TABLE * 1000), FORM)
        self.assert_fault(pair, tuple(range(20000)), FORM)
        self.assert_fault(pair, ("shown", ("alike",), tuple(range(19000))), FORM)

    def test_a_part_of_another_kind_at_any_depth(self):
        watcher = turning_back()
        pair = (watcher, once())
        claims = [("alike",), ("alike", 2, 1, ((1, 0),)), ("together", 1, 0), ("together", 3, 3),
                  ("swap", "A", 2, 0, 1), ("unneeded", "A", 2, 1), ("never", "A", 2), ("never", "A", 3),
                  ("least", "B"), ("least", "A")]
        for claim in claims:
            certificate = decide(pair, claim)
            self.assert_right(pair, certificate)
            for value in with_a_part_of_another_kind(certificate):
                with self.subTest(value=value):
                    self.assert_fault(pair, value, FORM)

    def test_claims_that_are_none(self):
        pair = (once(), once())
        for claim in (("alike", 0, 0), ("alike", 3, 0, ()), ("unneeded", "A", 1, 1), ("unneeded", "A", 0, 0),
                      ("swap", "A", 1, 0, 0), ("never", "C", 0), ("never", "A", 4), ("never", "A", True),
                      ("together", 0), ("together", -1, 0), ("least",), ("least", "A", 0), ["alike"], ("unreached",)):
            for answer in ("shown", "broken"):
                for content in (TABLE, (), ((0, 7),), (0, 1, 2), ((), (), ())):
                    self.assert_fault(pair, (answer, claim, content), FORM)

    def test_verdicts_that_no_state_has_may_be_claimed(self):
        pair = (once(), once())
        self.assert_right(pair, ("shown", ("never", "A", 3), (0, 1, 2)))
        self.assert_right(pair, ("broken", ("together", 3, 2), TABLE))
        self.assert_fault(pair, ("broken", ("never", "A", 3), ()), ("verdicts",))
        self.assert_fault(pair, ("shown", ("together", 3, 2), ()), ("verdicts",))

    def test_tables(self):
        pair = (once(), turning_back())
        for table in (
            [START], (START, START), (TABLE[1], START), ((0, 0),), ((0, 0, (), 0),), ((3, 0, ()),), ((0, 4, ()),),
            ((-1, 0, ()),), ((0, 1, ((0, 0),)),), ((1, 2, ((0, 2),)),), ((1, 2, ((0, 0), (0, 1))),),
            ((1, 2, ((0, 0), (0, 0))),), ((1, 2, [(0, 0)]),), ((1, 2, ([0, 0],)),), ((1, 2, ((False, 0),)),),
            ((True, 2, ()),), ((1, 2, ((0, True),)),), ((1, 2, None),), (START, None), (None,), ((),), START, "",
            (START, [1, 1, ()]), (START, (1, 2, ((0, 1),)), (1, 2, ((0, 0),))), ((1, 2, ((0,),)),), (("0", 0, ()),),
        ):
            with self.subTest(table=table):
                self.assert_fault(pair, ("shown", ("alike",), table), FORM)
                self.assert_fault(pair, ("broken", ("together", 0, 0), table), FORM)

    def test_the_watchers_that_are_compared(self):
        # The situation is one of the second watcher with itself, but not one of the pair.
        pair = (once(), turning_back())
        situation = (2, 2, ((1, 1),))
        self.assert_fault(pair, ("shown", ("unneeded", "B", 2, 0), (situation,)), ("step", 0, 0, ("both", 1, 1)))
        self.assert_fault(pair, ("shown", ("unneeded", "A", 1, 0), (situation,)), FORM)
        self.assert_fault(pair, ("shown", ("alike",), (situation,)), FORM)
        self.assert_fault(pair, ("shown", ("swap", "B", 2, 0, 1), (situation,)), ("start",))
        self.assert_fault(pair, ("shown", ("alike",), ((0, 3, ()),)), ("start",))
        self.assert_fault(pair, ("shown", ("unneeded", "A", 1, 0), ((0, 3, ()),)), FORM)

    def test_streams(self):
        pair = (once(), Watcher(1))
        for stream in ([(0, 7), (0, 7)], ((0, 7), [0, 7]), ((0, 7), (1, 7)), ((0, 7), (-1, 7)), ((0, True), (0, True)),
                       ((False, 7), (0, 7)), ((0, MOST + 1), (0, MOST + 1)), ((0, -MOST - 1), (0, -MOST - 1)), ((0,),),
                       ((0, 7, 7),), ((0, "7"), (0, "7")), ((0, None), (0, None)), (0, 7), "00", None, {}, ((),)):
            with self.subTest(stream=stream):
                self.assert_fault(pair, ("broken", ("alike",), stream), FORM)
                self.assert_fault(pair, ("shown", ("together", 1, 0), stream), FORM)
                self.assert_fault(pair, ("broken", ("never", "A", 1), stream), FORM)
                self.assert_fault(pair, ("broken", ("unneeded", "A", 1, 0), stream), FORM)
        wider = (wide(), wide())
        self.assert_fault(wider, ("broken", ("alike",), ((2, 7),)), ("verdicts",))
        self.assert_fault(wider, ("broken", ("alike",), ((3, 7),)), FORM)

    def test_states(self):
        pair = (once(), Watcher(1))
        for states in ([0, 1, 2], (0, 2, 1), (0, 1, 1, 2), (0, 1, 2, 3), (-1, 0, 1, 2), (False, True, 2), ("0",), None,
                       (0, 1, (2,)), (0, None), 0, {0: 0}, ((0, 1, 2),), (0, 0), (2, 1, 0)):
            with self.subTest(states=states):
                self.assert_fault(pair, ("shown", ("never", "A", 3), states), FORM)
        self.assert_right(pair, ("shown", ("never", "A", 3), (0, 1, 2)))
        self.assert_fault(pair, ("shown", ("never", "B", 3), (0, 1, 2)), FORM)

    def test_the_content_goes_by_the_claim_and_the_answer(self):
        pair = (once(), once())
        stream = ((0, 7), (0, 7))
        for answer, claim, content in (
            ("shown", ("alike",), stream), ("broken", ("alike",), TABLE), ("shown", ("together", 1, 1), TABLE),
            ("broken", ("together", 1, 1), stream), ("shown", ("never", "A", 3), TABLE),
            ("shown", ("never", "A", 3), stream), ("broken", ("never", "A", 1), (0, 1, 2)),
            ("shown", ("unneeded", "A", 1, 0), stream), ("broken", ("unneeded", "A", 1, 0), (0, 1, 2)),
            ("shown", ("alike",), (0, 1, 2)), ("shown", ("least", "A"), TABLE), ("broken", ("least", "A"), TABLE),
            ("shown", ("least", "A"), (0, 1, 2)), ("broken", ("least", "A"), (0, 1, 2)),
        ):
            with self.subTest(answer=answer, claim=claim):
                self.assert_fault(pair, (answer, claim, content), FORM)


def with_a_part_of_another_kind(value):
    """The value with one part of it in a kind that it may not have."""
    yield None
    if isinstance(value, tuple):
        yield list(value)
        yield {at: part for at, part in enumerate(value)}
        for at, part in enumerate(value):
            for other in with_a_part_of_another_kind(part):
                yield value[:at] + (other,) + value[at + 1:]
    elif isinstance(value, int):
        yield from (str(value), (value,), [value], "new", 10 ** 69, -10 ** 69)
        yield bool(value)
        yield not value
    else:
        yield from (value + "s", value.upper() + value, value[1:], (value,), [value], 0, True, "value")


class TableFaultsTest(FaultCase):
    def test_the_example(self):
        self.assert_fault((once(), Watcher(1)), ("shown", ("alike",), (START,)), ("step", 0, 0, ("new",)))

    def test_situations_left_out_and_put_in(self):
        pair = (once(), once())
        for table, fault in (
            ((), ("start",)),
            (TABLE[1:], ("start",)),
            ((START,), ("step", 0, 0, ("new",))),
            ((START, (2, 2, ())), ("step", 0, 0, ("new",))),
            (TABLE[:2], ("step", 1, 0, ("both", 0, 0))),
            (TABLE, None),
            ((*TABLE[:2], (2, 0, ()), (2, 2, ())), ("verdicts", 2)),
            ((START, (0, 1, ()), *TABLE[1:]), ("step", 1, 0, ("second", 0))),
            ((START, (1, 1, ()), *TABLE[1:]), ("step", 1, 0, ("first", 0))),
            ((START, (0, 2, ()), TABLE[1]), ("verdicts", 1)),
            ((START, (0, 2, ())), ("step", 0, 0, ("new",))),
        ):
            with self.subTest(table=table):
                self.assert_fault(pair, ("shown", ("alike",), table), fault)
                self.assert_fault(pair, ("shown", ("alike", 0, 0, ()), table), fault)

    def test_from_another_situation(self):
        pair = (once(), once())
        claim = ("alike", 1, 1, ((0, 0),))
        self.assert_right(pair, ("shown", claim, TABLE))
        self.assert_right(pair, ("shown", claim, TABLE[1:]))
        self.assert_fault(pair, ("shown", claim, (START, (2, 2, ()))), ("start",))
        self.assert_fault(pair, ("shown", ("alike", 1, 1, ()), TABLE), ("start",))
        self.assert_right(pair, ("shown", ("alike", 2, 2, ()), ((2, 2, ()),)))

    def test_of_a_claim_together(self):
        pair = (once(), once())
        self.assert_right(pair, ("broken", ("together", 1, 0), TABLE))
        self.assert_fault(pair, ("broken", ("together", 1, 1), TABLE), ("verdicts", 2))
        self.assert_fault(pair, ("broken", ("together", 0, 0), TABLE), ("verdicts", 0))
        self.assert_fault(pair, ("broken", ("together", 1, 0), TABLE[:2]), ("step", 1, 0, ("both", 0, 0)))
        self.assert_fault(pair, ("broken", ("together", 1, 0), TABLE[1:]), ("start",))
        larger = (*TABLE[:2], (2, 0, ()), (2, 1, ()), (2, 2, ()))
        self.assert_fault(pair, ("broken", ("together", 1, 0), larger), ("verdicts", 2))
        # Unlike verdicts are no fault here.
        self.assert_right(pair, ("broken", ("together", 0, 1), larger))

    def test_words_come_before_cases(self):
        one = Watcher(2)
        one.add_state(0, 1)
        one.add_state(1, 0)
        one.add_rule(1, 1, 0, 2, ())
        pair = (one, one)
        table = ((1, 1, ((0, 0),)),)
        claim = ("alike", 1, 1, ((0, 0),))
        self.assert_fault(pair, ("shown", claim, table), ("step", 0, 1, ("both", 0, 0)))
        one.add_rule(1, 0, "new", 2, ())
        self.assert_fault(pair, ("shown", claim, table), ("step", 0, 0, ("new",)))
        one.add_rule(1, 0, 0, 2, ())
        self.assert_fault(pair, ("shown", claim, table), ("step", 0, 0, ("both", 0, 0)))

    def test_larger_closed_tables(self):
        many = 0
        for number, pair in enumerate(some_pairs(211, 30, 4) + alike_pairs(212, 20)):
            largest = largest_table(pair)
            for claim in [("alike",)] + [("alike", *situation) for situation in list(all_situations(pair))[::7]]:
                fault = self.fault(pair, ("shown", claim, largest))
                self.assertEqual(fault, None if (claim[1:] or START) in largest else ("start",))
                self.assertEqual(decide(pair, claim)[0], "broken" if fault else "shown")
                many += fault is None and len(largest) > len(decide(pair, claim)[2])
        self.assertGreater(many, 50)

    def test_unneeded_and_swap(self):
        both = built(1, [(0, 2), (1, 0)], [(1, 0, 0, 2, ()), (1, 0, 1, 2, ())])
        pair = (both, once())
        table = ((1, 1, ((0, 1), (1, 0))), (2, 2, ()))
        claim = ("swap", "A", 1, 0, 1)
        self.assert_right(pair, ("shown", claim, table))
        self.assert_fault(pair, ("shown", claim, table[1:]), ("start",))
        self.assert_fault(pair, ("shown", claim, table[:1]), ("step", 0, 0, ("both", 0, 1)))
        self.assert_fault(pair, ("shown", claim, ((1, 1, ((0, 0), (1, 1))), (2, 2, ()))), ("start",))
        self.assert_fault(pair, ("shown", claim, (*table[:1], (2, 1, ()), *table[1:])), ("verdicts", 1))
        claim = ("unneeded", "A", 1, 1)
        self.assert_fault(pair, ("shown", claim, table), ("start",))
        self.assert_fault(pair, ("shown", claim, ((1, 1, ((0, 0),)),)), ("step", 0, 0, ("both", 0, 0)))
        self.assert_fault(pair, ("shown", claim, ((1, 1, ((0, 0),)), (2, 2, ()))), ("step", 0, 0, ("first", 1)))
        self.assert_fault(pair, ("shown", claim, ((1, 1, ((0, 0),)), (1, 2, ()), (2, 1, ()), (2, 2, ()))),
                          ("verdicts", 1))


def largest_table(pair):
    """All situations from which no steps lead to unlike verdicts."""
    steps = {here: {there for _, _, there in told_steps(pair, here)} for here in all_situations(pair)}
    inside = {here for here in steps if verdicts_of(pair, here)[0] == verdicts_of(pair, here)[1]}
    closed = {here for here in inside if steps[here] <= inside}
    while closed != inside:
        inside = closed
        closed = {here for here in inside if steps[here] <= inside}
    return tuple(sorted(inside))


class StreamFaultsTest(FaultCase):
    def test_shorter_and_longer_ones_with_any_values(self):
        pair = (once(), Watcher(1))
        for stream, fault in (
            ((), ("verdicts",)), (((0, 7),), ("verdicts",)), (((0, 7), (0, 8)), ("verdicts",)),
            (((0, 7), (0, 7)), None), (((0, MOST), (0, MOST)), None), (((0, -MOST), (0, -MOST)), None),
            (((0, 5), (0, 3), (0, 5), (0, 3), (0, 3), (0, 8)), None), (((0, 5), (0, -5), (0, 5)), ("verdicts",)),
            (tuple((0, n // 2) for n in range(2000)), None), (tuple((0, n) for n in range(2000)), ("verdicts",)),
        ):
            with self.subTest(stream=stream[:6]):
                self.assert_fault(pair, ("broken", ("alike",), stream), fault)
                self.assert_fault(pair, ("broken", ("never", "A", 1), stream), fault)
                self.assert_fault(pair, ("shown", ("together", 1, 0), stream), fault)
                self.assert_fault(pair, ("shown", ("together", 0, 1), stream), ("verdicts",))

    def test_continuations_number_the_places(self):
        pair = (once(), once())
        claim = ("alike", 1, 1, ())
        for value, fault in ((0, None), (1, None), (2, ("verdicts",)), (-1, ("verdicts",)), (MOST, ("verdicts",))):
            self.assert_fault(pair, ("broken", claim, ((0, value),)), fault)
            self.assert_fault(pair, ("broken", ("unneeded", "B", 1, 0), ((0, value),)), fault)
        self.assert_fault(pair, ("broken", ("alike", 1, 1, ((0, 0),)), ((0, 0),)), ("verdicts",))
        self.assert_fault(pair, ("broken", ("alike", 1, 2, ()), ()), None)

    def test_swap(self):
        pair = (turning_back(), turning_back())
        claim = ("swap", "B", 2, 0, 1)
        for stream, fault in (((), ("verdicts",)), (((0, 0),), None), (((0, 1),), None), (((0, 2),), ("verdicts",)),
                              (((0, 0), (0, 0)), ("verdicts",)), (((0, 0), (0, 1)), None)):
            self.assert_fault(pair, ("broken", claim, stream), fault)

    def test_drawn_streams(self):
        chooser = random.Random(221)
        found = Counter()
        for number, pair in enumerate(some_pairs(222, 40)):
            for claim in some_claims(number, pair, 8):
                answer = "shown" if claim[0] == "together" else "broken"
                if claim[0] != "least":
                    certificate = (answer, claim, some_stream(chooser, pair[0].words, range(5), chooser.randrange(8)))
                    fault = told_fault(pair, certificate)
                    self.assert_fault(pair, certificate, fault)
                    found[fault] += 1
        self.assertEqual(set(found), {None, ("verdicts",)})


class StatesFaultsTest(FaultCase):
    def test_their_order(self):
        pair = (once(), once())
        for states, verdict, fault in (
            ((), 3, ("start",)), ((1, 2), 3, ("start",)), ((1, 2), 1, ("start",)), ((2,), 1, ("start",)),
            ((0, 1, 2), 3, None), ((0, 1, 2), 1, ("verdict", 2)), ((0, 1, 2), 0, ("verdict", 0)),
            ((0,), 3, ("rule", 0, 0, "new")), ((0, 2), 3, ("rule", 0, 0, "new")), ((0, 1), 3, ("rule", 1, 0, 0)),
            # The verdict of a later state comes before the rule of an earlier one.
            ((0, 2), 1, ("verdict", 2)), ((0, 1), 1, ("rule", 1, 0, 0)), ((0, 1), 0, ("verdict", 0)),
        ):
            with self.subTest(states=states, verdict=verdict):
                self.assert_fault(pair, ("shown", ("never", "A", verdict), states), fault)
                self.assert_fault(pair, ("shown", ("never", "B", verdict), states), fault)

    def test_rules_in_order(self):
        one = Watcher(2)
        for verdict, held in ((1, 1), (2, 0), (3, 0)):
            one.add_state(verdict, held)
        for rule in ((1, 1, "new", 3, ()), (1, 1, 0, 3, ()), (1, 0, "new", 3, ()), (1, 0, 0, 2, ())):
            one.add_rule(*rule)
        one.add_rule(0, 1, "new", 1, ("value",))
        pair = (one, one)
        for states, fault in (((0,), ("rule", 0, 1, "new")), ((0, 1), ("rule", 1, 0, 0)),
                              ((0, 1, 2), ("rule", 1, 0, "new")), ((0, 1, 3), ("rule", 1, 0, 0)), ((0, 1, 2, 3), None)):
            self.assert_fault(pair, ("shown", ("never", "A", 0), states), ("verdict", 0))
            one.set_verdict(0, 1)
            self.assert_fault(pair, ("shown", ("never", "A", 0), states), fault)
            one.set_verdict(0, 0)
        one.set_verdict(0, 1)
        one.remove_rule(1, 0, 0)
        one.remove_rule(1, 0, "new")
        self.assert_fault(pair, ("shown", ("never", "A", 0), (0, 1, 2)), ("rule", 1, 1, 0))

    def test_larger_closed_tuples(self):
        pair = (wide(), wide())
        for states, fault in (((0,), None), ((0, 1, 2), None), ((0, 3), ("verdict", 3)), ((1, 2), ("start",))):
            self.assert_fault(pair, ("shown", ("never", "A", 3), states), fault)

    def test_drawn_states(self):
        chooser = random.Random(231)
        found = Counter()
        for pair in some_pairs(232, 60):
            for side, watcher in zip("AB", pair):
                for verdict in range(4):
                    states = tuple(sorted(chooser.sample(range(len(watcher)), chooser.randint(0, len(watcher)))))
                    certificate = ("shown", ("never", side, verdict), states)
                    fault = told_fault(pair, certificate)
                    self.assert_fault(pair, certificate, fault)
                    found[fault and fault[0]] += 1
        self.assertEqual(set(found), {None, "start", "verdict", "rule"})


class LeastFaultsTest(FaultCase):
    def some_least(self, many, at_least_parts=1):
        """Pairs of a watcher that is least, with places and states with equally many places, with itself."""
        chooser = random.Random(241)
        found = []
        while len(found) < many:
            one = any_watcher(chooser, chooser.randint(1, 3), chooser.randint(3, 6))
            if told_places(one) and len(told_parts(one)) >= at_least_parts and not told_least(one):
                found.append((one, one))
        return found

    def test_other_numbers_of_streams(self):
        for pair in [(once(), once())] + self.some_least(3):
            claim = ("least", "A")
            _, _, rows = decide(pair, claim)
            for at, row in enumerate(rows):
                for other in (row[:-1], row + ((),), (), row + row, list(row), row[0] if row else None):
                    if other != row:
                        self.assert_fault(pair, ("shown", claim, rows[:at] + (other,) + rows[at + 1:]), FORM)
            for other in (rows[:2], rows + ((),), (rows[0], rows[1] + rows[2]), list(rows), sum(rows, ())):
                self.assert_fault(pair, ("shown", claim, other), FORM)
            self.assert_fault(pair, ("shown", claim, (rows[0], rows[1], rows[2][:-1] + (((0, True),),))), FORM)
            self.assert_fault(pair, ("shown", claim, (rows[0], (((0, MOST + 1),),) * len(rows[1]), rows[2])), FORM)

    def test_no_places_and_one_state(self):
        pair = (Watcher(1), Watcher(1))
        self.assert_right(pair, ("shown", ("least", "A"), (((),), (), ())))
        self.assert_right(pair, ("shown", ("least", "B"), ((((0, 7),),), (), ())))
        self.assert_fault(pair, ("shown", ("least", "A"), ((), (), ())), FORM)
        self.assert_fault(pair, ("shown", ("least", "A"), (((),), ((),), ())), FORM)

    def test_the_streams_of_the_example(self):
        pair = (once(), Watcher(1))
        streams = ((), ((0, 7),), ((0, 7), (0, 7)))
        needs, parts = (((0, 0),),), ((),)
        for rows, fault in (
            ((streams, needs, parts), None),
            ((((), ((0, 7), (0, 8)), ((0, 7), (0, 8), (0, 8), (0, 9))), needs, parts), None),
            ((streams, (((0, 1),),), (((0, 3),),)), None),
            ((streams[::-1], needs, parts), ("stream", 0)),
            (((((0, 7),),) + streams[1:], needs, parts), ("stream", 0)),
            ((((), ((0, 7), (0, 7)), ((0, 7),)), needs, parts), ("stream", 1)),
            ((((), (), ()), needs, parts), ("stream", 1)),
            ((((), ((0, 7),), ((0, 7), (0, 8))), needs, parts), ("stream", 2)),
            ((streams, (((0, 2),),), parts), ("need", 1, 0)),
            ((streams, ((),), parts), ("need", 1, 0)),
            ((streams, needs, (((0, 3), (0, 3)),)), ("part", 0, 2, ())),
            ((streams, ((),), (((0, 3), (0, 3)),)), ("need", 1, 0)),
            ((((), (), ()), ((),), (((0, 3), (0, 3)),)), ("stream", 1)),
        ):
            with self.subTest(rows=rows):
                self.assert_fault(pair, ("shown", ("least", "A"), rows), fault)
                self.assert_fault(pair[::-1], ("shown", ("least", "B"), rows), fault)

    def test_each_stream_exchanged(self):
        found = Counter()
        chooser = random.Random(242)
        for pair in self.some_least(12):
            words = pair[0].words
            for side in "AB":
                rows = decide(pair, ("least", side))[2]
                for _ in range(25):
                    other = [list(row) for row in rows]
                    for _ in range(chooser.randint(1, 2)):
                        row = chooser.choice([row for row in other if row])
                        row[chooser.randrange(len(row))] = some_stream(chooser, words, range(5), chooser.randrange(4))
                    certificate = ("shown", ("least", side), tuple(map(tuple, other)))
                    fault = told_fault(pair, certificate)
                    self.assert_fault(pair, certificate, fault)
                    found[fault and fault[0]] += 1
        for kind in (None, "stream", "need", "part"):
            self.assertGreater(found[kind], 20, kind)

    def test_part_unreached(self):
        one = once()
        one.add_state(1, 2)
        pair = (one, Watcher(1))
        for p, states, fault in (
            (3, (0, 1, 2), None), (3, (0, 1, 2, 3), ("verdict", 3)), (2, (0, 1, 2), ("verdict", 2)),
            (3, (1, 2), ("start",)), (3, (), ("start",)), (3, (3,), ("start",)), (3, (0, 1), ("rule", 1, 0, 0)),
            (3, (0,), ("rule", 0, 0, "new")), (3, (0, 3), ("verdict", 3)), (0, (0, 1, 2), ("verdict", 0)),
            (2, (0, 1), ("rule", 1, 0, 0)), (2, (0,), ("rule", 0, 0, "new")), (2, (0, 3), ("rule", 0, 0, "new")),
            (4, (0, 1, 2), FORM), (-1, (0, 1, 2), FORM), (True, (0, 2, 3), FORM), (None, (0, 1, 2), FORM),
            ("3", (0, 1, 2), FORM), (3, (0, 2, 1), FORM), (3, [0, 1, 2], FORM), (3, (0, 1, 2, 4), FORM),
            (3, (0, True, 2), FORM), (3, (0, 0, 1, 2), FORM), (3, None, FORM), ((3,), (0, 1, 2), FORM),
        ):
            with self.subTest(p=p, states=states):
                self.assert_fault(pair, ("broken", ("least", "A"), ("unreached", p, states)), fault)
                self.assert_fault(pair[::-1], ("broken", ("least", "B"), ("unreached", p, states)), fault)
        for part in (("unreached", 3), ("unreached", 3, (0, 1, 2), ()), ("unreached",), ("reached", 3, (0, 1, 2))):
            self.assert_fault(pair, ("broken", ("least", "A"), part), FORM)

    def test_part_unneeded(self):
        one = once()
        one.set_verdict(2, 0)
        closed = ((1, 1, ()), (1, 1, ((0, 0),)), (1, 2, ()), (2, 1, ()), (2, 2, ()))
        pair = (one, once())
        for p, i, table, fault in (
            (1, 0, closed, None), (1, 0, (START, *closed), None),
            (1, 0, closed[1:], ("start",)), (1, 0, (), ("start",)),
            (1, 0, closed[:1], ("step", 0, 0, ("first", 0))), (1, 0, closed[:-1], ("step", 1, 0, ("both", 0, 0))),
            (1, 1, closed, FORM), (0, 0, closed, FORM), (3, 0, closed, FORM), (1, -1, closed, FORM),
            (True, 0, closed, FORM), (1, False, closed, FORM), (1, None, closed, FORM), (1, 0, closed[::-1], FORM),
            (1, 0, list(closed), FORM), (1, 0, closed + ((3, 3, ()),), FORM), (1, 0, None, FORM),
            ("1", 0, closed, FORM),
        ):
            with self.subTest(p=p, i=i, table=table):
                self.assert_fault(pair, ("broken", ("least", "A"), ("unneeded", p, i, table)), fault)
        self.assert_fault(pair, ("broken", ("least", "B"), ("unneeded", 1, 0, closed)), ("verdicts", 2))
        for part in (("unneeded", 1, 0), ("unneeded", 1, 0, closed, ()), ("unneeded", "A", 1, 0, closed), ("unneeded",),
                     ("needed", 1, 0, closed), ("swap", 1, 0, closed)):
            self.assert_fault(pair, ("broken", ("least", "A"), part), FORM)

    def test_part_alike(self):
        # State 3 is state 2 with its places the other way round.
        one = built(2, [(0, 1), (0, 2), (0, 2), (1, 0)], [
            (0, 0, "new", 1, ("value",)), (1, 0, "new", 2, (0, "value")), (1, 1, "new", 3, ("value", 0)),
            (2, 0, 0, 4, ()), (3, 0, 1, 4, ())])
        pair = (one, one)
        crossed = ((0, 1), (1, 0))
        table = ((2, 3, crossed), (4, 4, ()))
        for p, q, pairs, content, fault in (
            (2, 3, crossed, table, None),
            (2, 3, crossed, (START, *table), ("step", 0, 0, ("new",))),
            (2, 3, crossed, (), ("start",)), (2, 3, crossed, table[1:], ("start",)),
            (2, 3, crossed, table[:1], ("step", 0, 0, ("both", 0, 1))),
            (2, 3, ((0, 0), (1, 1)), table, ("start",)),
            (2, 3, ((0, 0), (1, 1)), ((2, 3, ((0, 0), (1, 1))), (4, 4, ())), ("step", 0, 0, ("both", 0, 0))),
            (0, 4, (), ((0, 4, ()),), ("verdicts", 0)), (0, 4, (), table, ("start",)),
            (3, 2, crossed, ((3, 2, crossed), (4, 4, ())), FORM), (2, 2, crossed, table, FORM),
            (2, 3, ((0, 1),), table, FORM), (2, 3, (), table, FORM), (2, 3, crossed[::-1], table, FORM),
            (2, 3, ((0, 1), (1, 1)), table, FORM), (1, 3, ((0, 0),), table, FORM), (1, 2, (), table, FORM),
            (2, 5, crossed, table, FORM), (-1, 3, crossed, table, FORM), (2, 3, list(crossed), table, FORM),
            (2, 3, ([0, 1], [1, 0]), table, FORM), (2, 3, ((False, 1), (1, 0)), table, FORM),
            (2, 3, ((0, True), (1, 0)), table, FORM), (False, 4, (), table, FORM), (2, 3, None, table, FORM),
            (2, 3, crossed, table[::-1], FORM), (2, 3, crossed, list(table), FORM), (2, 3, crossed, None, FORM),
            (4, 0, (), ((4, 0, ()),), FORM), (0, 0, (), ((0, 0, ()),), FORM), (None, 3, crossed, table, FORM),
        ):
            with self.subTest(p=p, q=q, pairs=pairs, content=content):
                self.assert_fault(pair, ("broken", ("least", "A"), ("alike", p, q, pairs, content)), fault)
        for part in (("alike",), ("alike", 2, 3, crossed), ("alike", 2, 3, crossed, table, ()), ("alike", table),
                     ("alike", (2, 3, crossed), table), ["alike", 2, 3, crossed, table], ("swap", 2, 3, crossed, table),
                     ("unneeded", 2, 3, crossed, table), ("unreached", 2, 3, crossed, table),
                     (None, 2, 3, crossed, table)):
            self.assert_fault(pair, ("broken", ("least", "A"), part), FORM)

    def test_the_side_that_is_named(self):
        pair = (once(), wide_of_one_word())
        shown = ("shown", ("least", "A"), decide(pair, ("least", "A"))[2])
        self.assert_right(pair, shown)
        self.assert_fault(pair[::-1], shown, FORM)
        self.assert_right(pair[::-1], ("shown", ("least", "B"), shown[2]))
        broken = ("broken", ("least", "B"), ("unreached", 3, (0,)))
        self.assert_right(pair, broken)
        self.assert_fault(pair[::-1], broken, FORM)


def wide_of_one_word():
    return built(1, [(0, 1), (0, 2), (0, 3)], [])


class DrawnCertificatesTest(FaultCase):
    def test_changed_certificates(self):
        chooser = random.Random(251)
        found = Counter()
        pairs = some_pairs(252, 60, 4) + alike_pairs(253, 40, 3) + [(two, two) for _, two in alike_pairs(254, 30, 3)]
        for number, pair in enumerate(pairs):
            for claim in some_claims(number, pair, 8):
                certificate = decide(pair, claim)
                for _ in range(4):
                    value = changed(chooser, certificate)
                    fault = told_fault(pair, value)
                    with self.subTest(value=value):
                        self.assert_fault(pair, value, fault)
                    found[fault and fault[0]] += 1
        self.assertTrue(set(found).issuperset({None, "form", "start", "step", "verdicts"}))

    def test_drawn_tables(self):
        chooser = random.Random(261)
        found = Counter()
        for number, pair in enumerate(some_pairs(262, 60, 4) + alike_pairs(263, 60, 3)):
            for claim in some_claims(number, pair, 8):
                answer = "broken" if claim[0] == "together" else "shown"
                if claim[0] not in ("never", "least"):
                    watchers, situation, _ = told_comparison(pair, claim)
                    closed = told_closure(watchers, situation)
                    others = chooser.sample(sorted(all_situations(watchers)), 1)
                    left_out = chooser.choice(closed)
                    for table in ((*closed, *others), [here for here in closed if here != left_out],
                                  [here for here in (*closed, *others) if here != left_out]):
                        certificate = (answer, claim, tuple(sorted(set(table))))
                        fault = told_fault(pair, certificate)
                        with self.subTest(certificate=certificate):
                            self.assert_fault(pair, certificate, fault)
                        found[fault and fault[0]] += 1
        for kind in (None, "start", "step", "verdicts"):
            self.assertGreater(found[kind], 30, kind)


class GuaranteeTest(FaultCase):
    def test_what_is_accepted_is_true_for_drawn_streams(self):
        chooser = random.Random(271)
        for number, pair in enumerate(some_pairs(272, 50) + alike_pairs(273, 30)):
            streams = [some_stream(chooser, pair[0].words, range(4), chooser.randrange(20)) for _ in range(25)]
            verdicts = [tuple(told_verdict(watcher, stream) for watcher in pair) for stream in streams]
            for claim in [("alike",), *(("together", x, x) for x in range(4)), *(("never", "B", x) for x in range(4))]:
                if claim[0] == "alike":
                    seen = [one != two for one, two in verdicts]
                elif claim[0] == "together":
                    seen = [both == claim[1:] for both in verdicts]
                else:
                    seen = [two == claim[2] for _, two in verdicts]
                answer = "shown" if claim[0] == "together" else "broken"
                for stream, bad in zip(streams, seen):
                    self.assert_fault(pair, (answer, claim, stream), None if bad else ("verdicts",))
                certificate = decide(pair, claim)
                self.assert_right(pair, certificate)
                if any(seen):
                    self.assertEqual(certificate[0], answer)

    def test_no_claim_has_accepted_certificates_of_both_kinds(self):
        chooser = random.Random(281)
        for number, pair in enumerate(some_pairs(282, 40, 4) + alike_pairs(283, 40, 3)):
            for claim in some_claims(number, pair, 8):
                answer, _, content = decide(pair, claim)
                other = "broken" if answer == "shown" else "shown"
                self.assertIsNotNone(self.fault(pair, (other, claim, content)))
                if claim[0] in ("never", "least"):
                    continue
                watchers, situation, _ = told_comparison(pair, claim)
                if (answer == "shown") == (claim[0] == "together"):
                    rivals = [told_closure(watchers, situation), largest_table(watchers), ()]
                    rivals += [tuple(here for here in rivals[0] if verdicts_of(watchers, here)[0] == 0)]
                else:
                    rivals = [some_stream(chooser, pair[0].words, range(6), chooser.randrange(9)) for _ in range(9)]
                for rival in rivals:
                    self.assertIsNotNone(self.fault(pair, (other, claim, rival)))


class UnpairedTest(FaultCase):
    def test_whatever_the_certificate_is(self):
        for pair in ((once(), wide()), (wide(), once())):
            for value in STRANGE + (DEEP, ("shown", ("never", "A", 3), (0,)), ("shown", ("alike",), (START,)),
                                    ("broken", ("least", "A"), ("unreached", 3, (0,)))):
                with self.assertRaises(Unpaired):
                    first_fault(pair, value)


class ArgumentsTest(FaultCase):
    def test_by_name(self):
        self.assertEqual(first_fault(certificate=None, pair=(once(), once())), FORM)
        self.assertIsNone(first_fault(certificate=("shown", ("alike",), TABLE), pair=(once(), once())))

    def test_edits_in_place(self):
        pair = (once(), once())
        certificate = ("shown", ("alike",), TABLE)
        stream = ("broken", ("alike",), ((0, 7), (0, 7)))
        self.assert_right(pair, certificate)
        self.assert_fault(pair, stream, ("verdicts",))
        pair[0].set_verdict(2, 3)
        self.assert_fault(pair, certificate, ("verdicts", 2))
        self.assert_right(pair, stream)
        pair[1].set_verdict(2, 3)
        self.assert_right(pair, certificate)
        pair[1].remove_rule(1, 0, 0)
        self.assert_fault(pair, certificate, ("step", 1, 0, ("both", 0, 0)))
        pair[0].remove_rule(1, 0, 0)
        self.assert_right(pair, certificate)
        pair[0].add_state(0, 2)
        self.assert_fault(pair, ("shown", ("unneeded", "B", 3, 1), ()), FORM)
        pair[1].add_state(0, 2)
        self.assert_fault(pair, ("shown", ("unneeded", "B", 3, 1), ()), ("start",))
        self.assert_right(pair, ("shown", ("unneeded", "B", 3, 1), ((3, 3, ((0, 0),)),)))


if __name__ == "__main__":
    unittest.main()
