"""Points [14] and [15], and of [2] and [4] what speaks of findings and joinings."""

import copy
import random
import unittest

from creditworks.errors import CreditError, NoThing
from creditworks.finds import find_price, find_top, join_groups, join_price, link_tops
from creditworks.groups import begin_groups, groups_credit, thing_credit
from creditworks.ledgers import Ledger
from tests.grouping import all_groups, beside, chain, plain_credit, plain_form, plain_slow, plain_way, random_groups
from tests.samples import NO_NUMBERS, spoil


def no_things(n):
    return NO_NUMBERS + (-1, -2, -n, n, n + 1, 10 ** 60 - 1, -10 ** 59)


class FindsCase(unittest.TestCase):
    def hold_groups(self, groups, handed):
        self.assertIs(type(groups), tuple)
        self.assertEqual([type(part) for part in groups], [list, list])
        self.assertTrue(plain_form(groups[0], groups[1]))
        for part in groups:
            for other in handed:
                self.assertIsNot(part, other)

    def hung(self, groups, way):
        above = [way[-1] if thing in way else up for thing, up in enumerate(groups[0])]
        return (above, groups[1])

    def hold_found(self, groups, thing):
        handed = copy.deepcopy(groups)
        told = find_top(handed, thing)
        self.assertEqual(handed, groups)
        self.assertIs(type(told), tuple)
        top, found, way = told
        self.hold_groups(found, handed)
        self.assertIs(type(way), list)
        wanted = plain_way(groups[0], thing)
        self.assertEqual((top, way), (wanted[-1], wanted))
        self.assertEqual(found, self.hung(groups, wanted))
        self.hold_paid(groups, found, way)
        return found

    # Nothing gains credit, and of the way all but slow + 2 at most lose some.
    def hold_paid(self, groups, found, way):
        n = len(groups[0])
        kept = 0
        for thing in range(n):
            ahead = thing_credit(groups, thing)
            behind = thing_credit(found, thing)
            self.assertLessEqual(behind, ahead)
            if thing in way and behind == ahead:
                kept += 1
        self.assertLessEqual(kept, plain_slow(n) + 2)
        self.assertLessEqual(len(way) + groups_credit(found), groups_credit(groups) + find_price(n))

    def hold_linked(self, groups, one, other):
        handed = copy.deepcopy(groups)
        linked = link_tops(handed, one, other)
        self.assertEqual(handed, groups)
        self.hold_groups(linked, handed)
        above, ranks = copy.deepcopy(groups)
        if ranks[one] < ranks[other]:
            above[one] = other
        elif ranks[one] > ranks[other]:
            above[other] = one
        else:
            above[other] = one
            ranks[one] += 1
        self.assertEqual(linked, (above, ranks))
        price = plain_slow(len(above)) + 1
        self.assertLessEqual(1 + groups_credit(linked), groups_credit(groups) + price)
        return linked

    def hold_joined(self, groups, one, other):
        handed = copy.deepcopy(groups)
        told = join_groups(handed, one, other)
        self.assertEqual(handed, groups)
        self.assertIs(type(told), tuple)
        apart, joined, way, second = told
        self.hold_groups(joined, handed)
        self.assertEqual([type(way), type(second)], [list, list])
        wanted = plain_way(groups[0], one)
        found = self.hung(groups, wanted)
        self.assertEqual(way, wanted)
        self.assertEqual(second, plain_way(found[0], other))
        found = self.hung(found, second)
        self.assertIs(apart, way[-1] != second[-1])
        self.assertEqual(joined, link_tops(found, way[-1], second[-1]) if apart else found)
        steps = len(way) + len(second) + (1 if apart else 0)
        self.assertLessEqual(steps + groups_credit(joined), groups_credit(groups) + join_price(len(groups[0])))
        return joined


class Finding(FindsCase):
    def test_a_top(self):
        self.assertEqual(find_top(([0], [0]), 0), (0, ([0], [0]), [0]))
        self.assertEqual(find_top(([0, 1, 2], [0, 0, 0]), 1), (1, ([0, 1, 2], [0, 0, 0]), [1]))
        self.assertEqual(find_top(([1, 1], [0, 1]), 1), (1, ([1, 1], [0, 1]), [1]))

    def test_one_right_below_a_top(self):
        self.assertEqual(find_top(([1, 1], [0, 1]), 0), (1, ([1, 1], [0, 1]), [0, 1]))

    def test_one_at_the_end_of_a_long_way(self):
        self.assertEqual(find_top(([1, 2, 3, 3], [0, 1, 2, 3]), 0), (3, ([3, 3, 3, 3], [0, 1, 2, 3]), [0, 1, 2, 3]))
        self.assertEqual(find_top(([1, 2, 3, 3], [0, 1, 2, 3]), 1), (3, ([1, 3, 3, 3], [0, 1, 2, 3]), [1, 2, 3]))
        groups = chain(300)
        self.assertEqual(find_top(groups, 0), (299, ([299] * 300, groups[1]), list(range(300))))

    def test_all_small_groups(self):
        for n in (1, 2, 3, 4):
            for groups in all_groups(n):
                for thing in range(n):
                    self.hold_found(groups, thing)

    def test_larger_groups(self):
        for seed in range(12):
            groups = random_groups(30, seed)
            for thing in range(30):
                groups = self.hold_found(groups, thing)
        for n in (60, 300):
            self.hold_found(chain(n), 0)
            self.hold_found(chain(n), n // 2)
            self.hold_found(random_groups(n, 5), 0)

    def test_what_is_no_thing(self):
        for groups in (([0], [0]), ([1, 1, 2], [0, 1, 0])):
            for wrong in no_things(len(groups[0])):
                handed = copy.deepcopy(groups)
                with self.assertRaises(CreditError, msg=wrong) as told:
                    find_top(handed, wrong)
                self.assertIs(type(told.exception), NoThing)
                self.assertEqual(handed, groups)


class Linking(FindsCase):
    def test_unlike_ranks(self):
        self.assertEqual(link_tops(([0, 0, 2], [1, 0, 0]), 0, 2), ([0, 0, 0], [1, 0, 0]))
        self.assertEqual(link_tops(([0, 0, 2], [1, 0, 0]), 2, 0), ([0, 0, 0], [1, 0, 0]))

    def test_like_ranks(self):
        self.assertEqual(link_tops(([0, 1], [0, 0]), 0, 1), ([0, 0], [1, 0]))
        self.assertEqual(link_tops(([0, 1], [0, 0]), 1, 0), ([1, 1], [0, 1]))
        self.assertEqual(link_tops(([0, 0, 2, 2], [1, 0, 1, 0]), 2, 0), ([2, 0, 2, 2], [1, 0, 2, 0]))

    def test_many_groups(self):
        for groups in [told for n in (2, 3, 4) for told in all_groups(n)] + [
                beside(random_groups(10, seed), random_groups(10, seed + 50)) for seed in range(12)]:
            tops = [thing for thing, up in enumerate(groups[0]) if thing == up]
            for one in tops:
                for other in tops:
                    if one != other:
                        self.hold_linked(groups, one, other)


class Joining(FindsCase):
    def test_two_groups(self):
        self.assertEqual(join_groups(([0, 1], [0, 0]), 0, 1), (True, ([0, 0], [1, 0]), [0], [1]))
        self.assertEqual(join_groups(([0, 1], [0, 0]), 1, 0), (True, ([1, 1], [0, 1]), [1], [0]))
        self.assertEqual(join_groups(([0, 0, 2, 2], [1, 0, 1, 0]), 1, 3),
                         (True, ([0, 0, 0, 2], [2, 0, 1, 0]), [1, 0], [3, 2]))
        self.assertEqual(join_groups(([1, 2, 2, 3], [0, 1, 2, 0]), 3, 0),
                         (True, ([2, 2, 2, 2], [0, 1, 2, 0]), [3], [0, 1, 2]))

    def test_one_group(self):
        self.assertEqual(join_groups(([0], [0]), 0, 0), (False, ([0], [0]), [0], [0]))
        self.assertEqual(join_groups(([0, 0], [1, 0]), 1, 0), (False, ([0, 0], [1, 0]), [1, 0], [0]))

    def test_the_second_is_found_behind_the_first(self):
        groups = ([1, 2, 3, 3], [0, 1, 2, 3])
        self.assertEqual(join_groups(groups, 0, 0), (False, ([3] * 4, [0, 1, 2, 3]), [0, 1, 2, 3], [0, 3]))
        self.assertEqual(join_groups(groups, 1, 0), (False, ([3] * 4, [0, 1, 2, 3]), [1, 2, 3], [0, 1, 3]))

    def test_all_small_groups(self):
        for n in (1, 2, 3):
            for groups in all_groups(n):
                for one in range(n):
                    for other in range(n):
                        self.hold_joined(groups, one, other)

    def test_larger_groups(self):
        for seed in range(30):
            groups = random_groups(24, seed)
            for one, other in ((0, 1), (5, 5), (7, 23), (23, 7)):
                groups = self.hold_joined(groups, one, other)

    def test_deep_groups_joined(self):
        for one in (chain(9), chain(40), random_groups(30, 1)):
            for other in (chain(9), chain(30), random_groups(30, 3)):
                groups = beside(one, other)
                self.hold_joined(groups, 0, len(one[0]))
                self.hold_joined(groups, len(one[0]), 0)
                self.hold_joined(groups, 4, 0)

    def test_what_is_no_thing(self):
        for groups in (([0], [0]), ([1, 1, 2], [0, 1, 0])):
            for wrong in no_things(len(groups[0])):
                for one, other in ((wrong, 0), (0, wrong), (wrong, wrong)):
                    handed = copy.deepcopy(groups)
                    with self.assertRaises(CreditError, msg=wrong) as told:
                        join_groups(handed, one, other)
                    self.assertIs(type(told.exception), NoThing)
                    self.assertEqual(handed, groups)


class Prices(unittest.TestCase):
    def test_prices(self):
        self.assertEqual([find_price(n) for n in (1, 2, 3, 4, 7, 8, 2047, 2048, 4000)], [2, 2, 3, 4, 4, 5, 5, 6, 6])
        self.assertEqual([join_price(n) for n in (1, 2, 3, 4, 7, 8, 2047, 2048, 4000)],
                         [5, 5, 8, 11, 11, 14, 14, 17, 17])


class Keeping(FindsCase):
    def deeds(self):
        return (lambda groups: find_top(groups, 0), lambda groups: (link_tops(groups, 3, 4),),
                lambda groups: join_groups(groups, 0, 1), lambda groups: join_groups(groups, 0, 4))

    def test_told_lists_belong_to_the_asker(self):
        groups = ([1, 2, 3, 3, 4], [0, 1, 2, 3, 0])
        for deed in self.deeds():
            handed = copy.deepcopy(groups)
            wanted = copy.deepcopy(deed(handed))
            spoil(deed(handed))
            self.assertEqual(handed, groups)
            self.assertEqual(deed(handed), wanted)

    def test_what_is_done_to_the_handed_groups_changes_no_answer(self):
        for deed in self.deeds():
            handed = ([1, 2, 3, 3, 4], [0, 1, 2, 3, 0])
            told = deed(handed)
            wanted = copy.deepcopy(told)
            handed[0].clear()
            handed[1].clear()
            self.assertEqual(told, wanted)


class AgainstPlainSets(FindsCase):
    def run_deeds(self, n, seed, many):
        chance = random.Random(seed)
        groups = begin_groups(n)
        plain = [{thing} for thing in range(n)]
        ledger = Ledger()
        self.assertEqual(groups_credit(groups), 0)
        for turn in range(many):
            one, other = chance.randrange(n), chance.randrange(n)
            if chance.random() < 0.4:
                top, groups, way = find_top(groups, one)
                self.assertIn(top, plain[one])
                self.assertEqual(top, groups[0][top])
                ledger.enter("find", len(way), find_price(n), groups_credit(groups))
            else:
                apart, groups, way, second = join_groups(groups, one, other)
                self.assertIs(apart, other not in plain[one])
                if apart:
                    merged = plain[one] | plain[other]
                    for thing in merged:
                        plain[thing] = merged
                steps = len(way) + len(second) + (1 if apart else 0)
                ledger.enter("join", steps, join_price(n), groups_credit(groups))
            self.assertTrue(plain_form(groups[0], groups[1]))
            self.assertEqual(ledger.credit(), plain_credit(groups))
            self.assertGreaterEqual(ledger.spare(), 0)
        for one in range(n):
            self.assertEqual({other for other in range(n) if find_top(groups, other)[0] == find_top(groups, one)[0]},
                             plain[one])

    def test_long_rows_of_deeds(self):
        for n in (1, 2, 3, 4, 7, 8, 40):
            for seed in range(4):
                self.run_deeds(n, seed, 4 * n + 10)
        self.run_deeds(120, 9, 150)

    def test_joined_by_twos_then_found(self):
        n = 256
        groups = begin_groups(n)
        ledger = Ledger()
        width = 1
        while width < n:
            for start in range(0, n, 2 * width):
                apart, groups, way, second = join_groups(groups, start, start + width)
                self.assertIs(apart, True)
                ledger.enter("join", len(way) + len(second) + 1, join_price(n), groups_credit(groups))
            width *= 2
        self.assertEqual(groups[1][0], 8)
        for thing in reversed(range(n)):
            top, groups, way = find_top(groups, thing)
            self.assertEqual(top, 0)
            ledger.enter("find", len(way), find_price(n), groups_credit(groups))
        self.assertGreaterEqual(ledger.spare(), 0)


if __name__ == "__main__":
    unittest.main()
