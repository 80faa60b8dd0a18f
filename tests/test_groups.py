"""Points [13] and [15], and of [2] and [4] what speaks of groups."""

import copy
import itertools
import unittest

from creditworks.groups import begin_groups, groups_credit, groups_in_form, level_of, thing_credit, times_of
from tests.grouping import (all_groups, chain, pair, plain_credit, plain_form, plain_level, plain_slow,
                            plain_thing_credit, plain_times, random_groups)


def some_groups():
    told = [chain(n) for n in (1, 2, 3, 4, 7, 8, 9, 60, 299, 300)]
    told.extend(random_groups(n, seed) for n in (2, 5, 8, 20, 60) for seed in range(8))
    told.extend(random_groups(300, seed) for seed in range(3))
    return told


class Beginning(unittest.TestCase):
    def test_all_are_tops_of_rank_nought(self):
        self.assertEqual(begin_groups(1), ([0], [0]))
        self.assertEqual(begin_groups(3), ([0, 1, 2], [0, 0, 0]))
        for n in (1, 2, 3, 299, 300):
            told = begin_groups(n)
            self.assertIs(type(told), tuple)
            self.assertEqual([type(part) for part in told], [list, list])
            self.assertEqual(told, (list(range(n)), [0] * n))
            self.assertIs(groups_in_form(told[0], told[1]), True)
            self.assertEqual(groups_credit(told), 0)

    def test_told_lists_belong_to_the_asker(self):
        for part in (0, 1):
            begin_groups(4)[part].append(9)
            self.assertEqual(begin_groups(4), ([0, 1, 2, 3], [0, 0, 0, 0]))


class Form(unittest.TestCase):
    def hold(self, above, ranks, wanted):
        handed = (list(above), list(ranks))
        self.assertIs(groups_in_form(handed[0], handed[1]), wanted, (above, ranks))
        self.assertEqual(handed, (list(above), list(ranks)))

    def test_in_form(self):
        for above, ranks in (([0], [0]), ([0, 1], [0, 0]), ([0, 0], [1, 0]), ([1, 1], [0, 1]), ([1, 2, 2], [0, 1, 2]),
                             ([1, 1, 1, 3], [0, 2, 1, 0]), ([0, 0, 0], [1, 0, 0])):
            self.hold(above, ranks, True)

    def test_things_that_come_to_no_top(self):
        self.hold([1, 0], [0, 0], False)
        self.hold([1, 2, 0], [0, 1, 2], False)
        self.hold([0, 2, 1], [0, 0, 1], False)
        self.hold([0, 2, 3, 2], [0, 0, 1, 2], False)
        self.hold([1] + list(range(2, 300)) + [1], list(range(300)), False)

    def test_numbers_that_are_no_things(self):
        for wrong in (-1, -2, 3, 4, 10 ** 60 - 1, -10 ** 59):
            for place in range(3):
                above = [0, 1, 2]
                above[place] = wrong
                self.hold(above, [0, 0, 0], False)
        self.hold([-1], [0], False)
        self.hold([1], [0], False)
        self.hold([0, -2], [1, 0], False)
        self.hold([-1, 1], [0, 1], False)
        self.hold([1, 2], [0, 1], False)

    def test_a_rank_below_nought(self):
        self.hold([0], [-1], False)
        self.hold([0, 1], [0, -1], False)
        self.hold([0, 0], [0, -1], False)
        self.hold([0, 0], [1, -10 ** 59], False)

    def test_a_rank_that_is_not_less_than_that_above(self):
        self.hold([0, 0], [0, 0], False)
        self.hold([0, 0, 0], [1, 1, 0], False)
        self.hold([0, 0, 0], [1, 2, 0], False)
        self.hold([1, 2, 2], [1, 1, 2], False)
        self.hold([1, 2, 2], [0, 0, 2], False)

    def test_a_top_whose_rank_is_too_great(self):
        self.hold([0], [1], False)
        self.hold([0, 1], [1, 0], False)
        self.hold([0, 0], [2, 0], False)
        self.hold([0, 0, 2], [2, 0, 0], False)
        self.hold([0, 0, 2], [1, 0, 1], False)
        self.hold([0, 0, 2], [10 ** 59, 0, 0], False)

    def test_all_small_lists(self):
        for n in (1, 2, 3):
            for above in itertools.product(range(-1, n + 1), repeat=n):
                for ranks in itertools.product(range(-1, n + 1), repeat=n):
                    self.hold(above, ranks, plain_form(list(above), list(ranks)))

    def test_long_lists(self):
        for groups in some_groups():
            self.hold(groups[0], groups[1], True)
        above, ranks = chain(300)
        self.hold(above, ranks[:-1] + [300], False)
        self.hold(above, [1, 1] + ranks[2:], False)
        self.hold(above[:-1] + [0], ranks, False)
        self.hold([0] * 300, [299] + [298] * 299, True)
        self.hold([0] * 300, [300] + [298] * 299, False)


class LevelsAndTimes(unittest.TestCase):
    def hold(self, rank, over, level, times):
        groups = pair(rank, over)
        self.assertTrue(plain_form(groups[0], groups[1]))
        handed = copy.deepcopy(groups)
        self.assertEqual((level_of(handed, 0), times_of(handed, 0)), (level, times), (rank, over))
        self.assertIs(type(level_of(handed, 0)), int)
        self.assertIs(type(times_of(handed, 0)), int)
        self.assertEqual(handed, groups)

    def test_the_least_and_the_greatest(self):
        for rank, over, level, times in ((1, 2, 0, 1), (1, 3, 1, 1), (1, 6, 1, 1), (1, 7, 2, 1), (1, 299, 2, 1),
                                         (2, 3, 0, 1), (2, 4, 0, 2), (2, 5, 1, 1), (2, 10, 1, 1), (2, 11, 1, 2),
                                         (2, 22, 1, 2), (2, 23, 2, 1), (3, 6, 0, 3), (3, 7, 1, 1), (3, 15, 1, 2),
                                         (3, 31, 1, 3), (3, 62, 1, 3), (3, 63, 2, 1), (149, 298, 0, 149),
                                         (149, 299, 1, 1), (298, 299, 0, 1)):
            self.hold(rank, over, level, times)

    def test_a_grid(self):
        for rank in list(range(1, 12)) + [73, 74, 75, 149, 150, 297]:
            for over in list(range(rank + 1, min(rank + 40, 300))) + [298, 299]:
                if over > rank:
                    self.hold(rank, over, plain_level(rank, over), plain_times(rank, over))

    def test_their_bounds(self):
        for groups in some_groups():
            above, ranks = groups
            slow = plain_slow(len(above))
            for thing in range(len(above)):
                if above[thing] != thing and ranks[thing] >= 1:
                    self.assertIn(level_of(groups, thing), range(slow))
                    self.assertIn(times_of(groups, thing), range(1, ranks[thing] + 1))


class Credit(unittest.TestCase):
    def test_tops_and_things_of_rank_nought(self):
        self.assertEqual([thing_credit(([0, 0], [1, 0]), thing) for thing in (0, 1)], [0, 0])
        self.assertEqual([thing_credit(([0, 0, 0], [2, 0, 0]), thing) for thing in (0, 1, 2)], [2, 0, 0])
        self.assertEqual([thing_credit(([0, 0, 0, 0], [3, 0, 0, 0]), thing) for thing in range(4)], [6, 0, 0, 0])
        self.assertEqual(thing_credit(([0] * 8, [5] + [0] * 7), 0), 15)

    def test_other_things(self):
        self.assertEqual(thing_credit(([1, 1, 1], [1, 2, 0]), 0), 0)
        self.assertEqual(thing_credit(pair(2, 4), 0), 2)
        self.assertEqual(thing_credit(pair(1, 2, 5), 0), 2)
        self.assertEqual(thing_credit(pair(2, 11), 0), 2)
        self.assertEqual(thing_credit(pair(149, 299), 0), 2 * 149 - 1)

    def test_against_the_plain_rule(self):
        for groups in some_groups() + [told for n in (1, 2, 3, 4) for told in all_groups(n)]:
            handed = copy.deepcopy(groups)
            for thing in range(len(groups[0])):
                told = thing_credit(handed, thing)
                self.assertEqual(told, plain_thing_credit(groups, thing))
                self.assertIs(type(told), int)
                self.assertGreaterEqual(told, 0)
            self.assertEqual(groups_credit(handed), plain_credit(groups))
            self.assertEqual(handed, groups)


if __name__ == "__main__":
    unittest.main()
