import copy
import random
import unittest
from itertools import product

from samples import Misfit, alike_pairs, any_watcher, built, disguised, kinds, look, once, some_pairs, wide
from seenbefore.checker import first_fault
from seenbefore.claims import decide
from seenbefore.joined import joined_table, turned_table
from seenbefore.watchers import Watcher
from told import START, all_situations, told_closure


def holding(held):
    """A watcher without rules whose state 1 holds so many values."""
    return built(1, [(0, held)], [])


def some_table(chooser, pair, many):
    """A strictly ascending tuple of situations by chance."""
    situations = sorted(all_situations(pair))
    return tuple(sorted(chooser.sample(situations, min(many, len(situations)))))


def some_threes(seed, many, states=4):
    """Three watchers by chance with equally many words."""
    chooser = random.Random(seed)
    threes = []
    for _ in range(many):
        words = chooser.randint(1, 3)
        threes.append(tuple(any_watcher(chooser, words, chooser.randint(1, states)) for _ in range(3)))
    return threes


def told_joined(watchers, one, two):
    """What the document tells: which of all situations of the first and the last watcher are joined ones."""
    return tuple(sorted(
        (p, r, m) for p, r, m in all_situations((watchers[0], watchers[2]))
        if any(q == middle and is_joined(s, t, m) for start, q, s in one for middle, end, t in two
               if (start, end) == (p, r))))


def is_joined(s, t, m):
    composed = {(i, k) for (i, j), (middle, k) in product(s, t) if j == middle}
    further = set(m) - composed
    free = all(i not in [left for left, _ in s] and k not in [right for _, right in t] for i, k in further)
    return composed <= set(m) and free


class TurnedTableTest(unittest.TestCase):
    def assert_turned(self, table, wanted):
        handed = copy.deepcopy(table)
        self.assertEqual(kinds(turned_table(table)), kinds(wanted))
        self.assertEqual(kinds(table), kinds(handed))

    def test_the_example(self):
        self.assert_turned(((0, 0, ()), (1, 2, ((0, 1),))), ((0, 0, ()), (2, 1, ((1, 0),))))

    def test_empty(self):
        self.assert_turned((), ())

    def test_situations_and_pairs_in_order(self):
        self.assert_turned(((0, 2, ()), (1, 1, ()), (2, 0, ())), ((0, 2, ()), (1, 1, ()), (2, 0, ())))
        self.assert_turned(((0, 2, ()), (1, 0, ()), (1, 2, ())), ((0, 1, ()), (2, 0, ()), (2, 1, ())))
        self.assert_turned(((1, 1, ((0, 2), (1, 0))),), ((1, 1, ((0, 1), (2, 0))),))
        self.assert_turned(((1, 1, ((0, 1), (1, 2), (2, 0))),), ((1, 1, ((0, 2), (1, 0), (2, 1))),))
        self.assert_turned(((1, 1, ((0, 1), (1, 0))), (1, 1, ((0, 2),))), ((1, 1, ((0, 1), (1, 0))), (1, 1, ((2, 0),))))
        self.assert_turned(((1, 1, ((0, 1),)), (1, 1, ((1, 0),))), ((1, 1, ((0, 1),)), (1, 1, ((1, 0),))))

    def test_tables_by_chance(self):
        chooser = random.Random(301)
        for pair in [(wide(), wide())] + some_pairs(302, 40):
            table = some_table(chooser, pair, 30)
            turned = turned_table(table)
            wanted = sorted((q, p, tuple(sorted((j, i) for i, j in pairs))) for p, q, pairs in table)
            self.assert_turned(table, tuple(wanted))
            self.assert_turned(turned, table)

    def test_it_is_a_table_of_the_turned_pair(self):
        for pair in alike_pairs(303, 30) + some_pairs(304, 30):
            answer, claim, content = decide(pair, ("alike",))
            if answer == "shown":
                turned = turned_table(content)
                self.assertIsNone(first_fault(pair[::-1], (answer, claim, turned)))
                self.assertEqual(turned, decide(pair[::-1], claim)[2])

    def test_arguments_by_name(self):
        self.assertEqual(turned_table(table=((0, 1, ()),)), ((1, 0, ()),))


class JoinedTableTest(unittest.TestCase):
    def assert_joined(self, watchers, one, two, wanted):
        before = [look(watcher) for watcher in watchers]
        handed = copy.deepcopy((one, two))
        self.assertEqual(kinds(joined_table(watchers, one, two)), kinds(wanted))
        self.assertEqual(kinds((one, two)), kinds(handed))
        self.assertEqual([look(watcher) for watcher in watchers], before)

    def test_none(self):
        watchers = (once(), once(), once())
        self.assert_joined(watchers, (), (), ())
        self.assert_joined(watchers, (START,), (), ())
        self.assert_joined(watchers, (), (START,), ())
        self.assert_joined(watchers, ((0, 1, ()), (1, 2, ())), ((0, 0, ()), (0, 2, ())), ())

    def test_composed_pairs(self):
        watchers = (holding(2), holding(2), holding(2))
        crossed, straight = ((0, 1), (1, 0)), ((0, 0), (1, 1))
        for s, t, m in ((crossed, crossed, straight), (straight, crossed, crossed), (crossed, straight, crossed),
                        (straight, straight, straight)):
            self.assert_joined(watchers, ((1, 1, s),), ((1, 1, t),), ((1, 1, m),))
        three = (holding(3), holding(3), holding(3))
        turning, back = ((0, 1), (1, 2), (2, 0)), ((0, 2), (1, 0), (2, 1))
        self.assert_joined(three, ((1, 1, turning),), ((1, 1, turning),), ((1, 1, back),))
        self.assert_joined(three, ((1, 1, turning),), ((1, 1, back),), ((1, 1, ((0, 0), (1, 1), (2, 2))),))

    def test_further_pairs_of_free_places(self):
        watchers = (holding(2), holding(2), holding(2))
        everything = tuple((1, 1, m) for m in (
            (), ((0, 0),), ((0, 0), (1, 1)), ((0, 1),), ((0, 1), (1, 0)), ((1, 0),), ((1, 1),)))
        self.assert_joined(watchers, ((1, 1, ()),), ((1, 1, ()),), everything)
        # Place 1 of the first one and place 0 of the last one have no partner in the middle.
        self.assert_joined(watchers, ((1, 1, ((0, 1),)),), ((1, 1, ((1, 1),)),),
                           ((1, 1, ((0, 1),)), (1, 1, ((0, 1), (1, 0)))))
        # A partner in the middle that goes no further keeps a place from being paired.
        self.assert_joined(watchers, ((1, 1, ((0, 0),)),), ((1, 1, ((1, 1),)),), ((1, 1, ()), (1, 1, ((1, 0),))))
        self.assert_joined(watchers, ((1, 1, ((0, 0), (1, 1))),), ((1, 1, ()),), ((1, 1, ()),))
        self.assert_joined(watchers, ((1, 1, ()),), ((1, 1, ((0, 1), (1, 0))),), ((1, 1, ()),))

    def test_unlike_numbers_of_places(self):
        watchers = (holding(1), holding(3), holding(2))
        self.assert_joined(watchers, ((1, 1, ()),), ((1, 1, ()),), ((1, 1, ()), (1, 1, ((0, 0),)), (1, 1, ((0, 1),))))
        self.assert_joined(watchers, ((1, 1, ((0, 2),)),), ((1, 1, ((1, 0),)),), ((1, 1, ()),))
        self.assert_joined(watchers, ((1, 1, ((0, 2),)),), ((1, 1, ((1, 0), (2, 1))),), ((1, 1, ((0, 1),)),))
        self.assert_joined(watchers[::-1], ((1, 1, ()),), ((1, 1, ()),),
                           ((1, 1, ()), (1, 1, ((0, 0),)), (1, 1, ((1, 0),))))

    def test_several_situations_with_the_same_middle_state(self):
        watchers = (once(), once(), once())
        one = ((0, 1, ()), (1, 1, ()), (1, 1, ((0, 0),)), (2, 1, ()))
        two = ((1, 0, ()), (1, 1, ((0, 0),)), (2, 2, ()))
        self.assert_joined(watchers, one, two, (
            (0, 0, ()), (0, 1, ()), (1, 0, ()), (1, 1, ()), (1, 1, ((0, 0),)), (2, 0, ()), (2, 1, ())))

    def test_tables_by_chance(self):
        chooser = random.Random(311)
        for watchers in [(wide(), wide(), wide())] + some_threes(312, 60):
            one = some_table(chooser, watchers[:2], 8)
            two = some_table(chooser, watchers[1:], 8)
            self.assert_joined(watchers, one, two, told_joined(watchers, one, two))

    def test_with_the_table_of_a_watcher_with_itself(self):
        chooser = random.Random(313)
        for pair in some_pairs(314, 40):
            table = some_table(chooser, pair, 20)
            with_itself = []
            for watcher in pair:
                counts = watcher.held_counts()
                with_itself.append(tuple((p, p, tuple((i, i) for i in range(held))) for p, held in enumerate(counts)))
            self.assert_joined((pair[0], *pair), with_itself[0], table, table)
            self.assert_joined((*pair, pair[1]), table, with_itself[1], table)

    def test_turned_and_joined_the_other_way_round(self):
        chooser = random.Random(315)
        for watchers in some_threes(316, 30):
            one = some_table(chooser, watchers[:2], 8)
            two = some_table(chooser, watchers[1:], 8)
            joined = joined_table(watchers, one, two)
            self.assert_joined(watchers[::-1], turned_table(two), turned_table(one), turned_table(joined))

    def test_tables_of_alike_watchers_joined_are_tables(self):
        chooser = random.Random(317)
        many = 0
        for one, two in alike_pairs(318, 60, 3):
            try:
                three = disguised(chooser, one)
            except Misfit:
                continue
            watchers = (two, one, three)
            tables = [decide(pair, ("alike",)) for pair in ((two, one), (one, three))]
            joined = joined_table(watchers, tables[0][2], tables[1][2])
            self.assertIsNone(first_fault((two, three), ("shown", ("alike",), joined)))
            self.assertTrue(set(told_closure((two, three), START)) <= set(joined))
            many += 1
        self.assertGreater(many, 30)

    def test_tables_from_other_situations(self):
        chooser = random.Random(319)
        many = 0
        for one, two in alike_pairs(320, 60, 3):
            situations = sorted(all_situations((two, one)))
            for p, q, s in chooser.sample(situations, min(8, len(situations))):
                first = decide((two, one), ("alike", p, q, s))
                for r, t in [(r, t) for left, r, t in all_situations((one, two)) if left == q][:3]:
                    second = decide((one, two), ("alike", q, r, t))
                    if first[0] == second[0] == "shown":
                        composed = tuple((i, k) for i, j in s for middle, k in t if j == middle)
                        joined = joined_table((two, one, two), first[2], second[2])
                        self.assertIsNone(first_fault((two, two), ("shown", ("alike", p, r, composed), joined)))
                        many += 1
        self.assertGreater(many, 50)

    def test_the_watchers_as_they_are_now(self):
        watchers = (holding(1), holding(1), Watcher(1))
        self.assert_joined(watchers, ((1, 1, ()),), ((1, 0, ()),), ((1, 0, ()),))
        watchers[2].add_state(0, 1)
        self.assert_joined(watchers, ((1, 1, ()),), ((1, 1, ()),), ((1, 1, ()), (1, 1, ((0, 0),))))

    def test_arguments_by_name(self):
        watchers = (once(), once(), once())
        self.assertEqual(joined_table(two=((1, 2, ()),), one=((0, 1, ()),), watchers=watchers), ((0, 2, ()),))


if __name__ == "__main__":
    unittest.main()
