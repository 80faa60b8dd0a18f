"""Points [21] and [22], and of [2] and [4] what speaks of trees put into, cut, joined and taken from."""

import random
import unittest

from creditworks.asking import ask_price, ask_tree, count_below, key_at
from creditworks.changing import cut_tree, put_key, put_price, take_key, take_price, tie_price, tie_trees
from creditworks.errors import CreditError, Mixed
from creditworks.ledgers import Ledger
from creditworks.trees import tree_credit, tree_of
from tests.treeing import (all_trees, bits, deep_trees, falling, in_form, leaf, made, many, numbers_about, plain_trail,
                           plain_way, rising, sorted_keys)


def some_trees():
    return [tree for length in range(6) for tree in all_trees(list(range(0, 3 * length, 3)))] + deep_trees()


# The tree asked for a number, and the trail, by the plain rule.
def asked(tree, number):
    if tree is None:
        return (None, [])
    trail = plain_trail(tree, plain_way(tree, number)[-1])
    return (trail[-1][1] if trail else tree, trail)


def plain_tie(one, other):
    if one is None or other is None:
        return (other if one is None else one, [])
    trail = plain_trail(one, sorted_keys(one)[-1])
    whole = trail[-1][1] if trail else one
    return (made(whole[0], whole[1], other), trail)


class ChangingCase(unittest.TestCase):
    def hold_tuple(self, told, *kinds):
        self.assertIs(type(told), tuple)
        self.assertEqual(len(told), len(kinds))
        for part, kind in zip(told, kinds):
            if kind == "tree":
                self.assertTrue(in_form(part))
            else:
                self.assertIs(type(part), kind)


class Putting(ChangingCase):
    def test_into_none(self):
        self.assertEqual(put_key(None, 5), (True, leaf(5), []))

    def test_beside_one_key(self):
        self.assertEqual(put_key(leaf(5), 5), (False, leaf(5), []))
        self.assertEqual(put_key(leaf(5), 7), (True, (leaf(5), 7, None, 2), []))
        self.assertEqual(put_key(leaf(5), 3), (True, (None, 3, leaf(5), 2), []))

    def test_where_the_sides_go(self):
        tree = tree_of(leaf(1), 3, leaf(9))
        turned = tree_of(tree_of(leaf(1), 3, None), 9, None)
        self.assertEqual(put_key(tree, 5), (True, tree_of(tree_of(leaf(1), 3, None), 5, leaf(9)), [("single", turned)]))
        turned = tree_of(None, 1, tree_of(None, 3, leaf(9)))
        self.assertEqual(put_key(tree, 2), (True, tree_of(leaf(1), 2, tree_of(None, 3, leaf(9))), [("single", turned)]))

    def test_many_trees(self):
        for tree in some_trees():
            keys = sorted_keys(tree)
            for number in numbers_about(tree):
                told = put_key(tree, number)
                self.hold_tuple(told, bool, "tree", list)
                self.assertEqual(told, self.wanted(tree, number))
                self.assertIs(told[0], number not in keys)
                self.assertEqual(sorted_keys(told[1]), sorted(set(keys) | {number}))
                self.assertLessEqual(len(told[2]) + tree_credit(told[1]), tree_credit(tree) + put_price(len(keys)))

    def wanted(self, tree, number):
        whole, trail = asked(tree, number)
        if whole is None:
            return (True, leaf(number), trail)
        if whole[1] == number:
            return (False, whole, trail)
        if whole[1] < number:
            return (True, made(made(whole[0], whole[1], None), number, whole[2]), trail)
        return (True, made(whole[0], number, made(None, whole[1], whole[2])), trail)


class Cutting(ChangingCase):
    def test_none_and_one_key(self):
        self.assertEqual(cut_tree(None, 5), (None, None, []))
        self.assertEqual(cut_tree(leaf(5), 4), (None, leaf(5), []))
        self.assertEqual(cut_tree(leaf(5), 5), (None, leaf(5), []))
        self.assertEqual(cut_tree(leaf(5), 6), (leaf(5), None, []))

    def test_below_all_and_above_all(self):
        tree = tree_of(leaf(1), 3, leaf(5))
        low = tree_of(None, 1, tree_of(None, 3, leaf(5)))
        high = tree_of(tree_of(leaf(1), 3, None), 5, None)
        self.assertEqual(cut_tree(tree, 0), (None, low, [("single", low)]))
        self.assertEqual(cut_tree(tree, 1), (None, low, [("single", low)]))
        self.assertEqual(cut_tree(tree, 6), (high, None, [("single", high)]))
        self.assertEqual(cut_tree(tree, 5), (high[0], leaf(5), [("single", high)]))

    def test_many_trees(self):
        for tree in some_trees():
            keys = sorted_keys(tree)
            for number in numbers_about(tree):
                told = cut_tree(tree, number)
                self.hold_tuple(told, "tree", "tree", list)
                self.assertEqual(told, self.wanted(tree, number))
                self.assertEqual(sorted_keys(told[0]), [key for key in keys if key < number])
                self.assertEqual(sorted_keys(told[1]), [key for key in keys if key >= number])
                behind = len(told[2]) + tree_credit(told[0]) + tree_credit(told[1])
                self.assertLessEqual(behind, tree_credit(tree) + ask_price(len(keys)))

    def wanted(self, tree, number):
        whole, trail = asked(tree, number)
        if whole is None:
            return (None, None, trail)
        if whole[1] < number:
            return (made(whole[0], whole[1], None), whole[2], trail)
        return (whole[0], made(None, whole[1], whole[2]), trail)


class Joining(ChangingCase):
    def test_of_which_one_is_none(self):
        tree = rising([1, 2, 3, 4])
        self.assertEqual(tie_trees(None, None), (None, []))
        self.assertEqual(tie_trees(None, tree), (tree, []))
        self.assertEqual(tie_trees(tree, None), (tree, []))
        self.assertEqual(tie_trees(falling([1, 2, 3]), None), (falling([1, 2, 3]), []))

    def test_two_trees(self):
        self.assertEqual(tie_trees(leaf(1), leaf(2)), ((None, 1, leaf(2), 2), []))
        turned = tree_of(leaf(1), 2, None)
        self.assertEqual(tie_trees(tree_of(None, 1, leaf(2)), leaf(5)),
                         (tree_of(leaf(1), 2, leaf(5)), [("single", turned)]))

    def test_many_trees(self):
        ones = [tree for length in range(5) for tree in all_trees(list(range(length)))] + [
            rising(list(range(30))), falling(list(range(30)))]
        others = [tree for length in range(4) for tree in all_trees(list(range(50, 50 + length)))] + [
            rising(list(range(50, 80)))]
        for one in ones:
            for other in others:
                told = tie_trees(one, other)
                self.hold_tuple(told, "tree", list)
                self.assertEqual(told, plain_tie(one, other))
                self.assertEqual(sorted_keys(told[0]), sorted_keys(one) + sorted_keys(other))
                price = tie_price(many(one), many(other))
                behind = len(told[1]) + tree_credit(told[0])
                self.assertLessEqual(behind, tree_credit(one) + tree_credit(other) + price)

    def test_trees_that_do_not_lie_apart(self):
        trees = [tree for length in range(1, 5) for tree in all_trees(list(range(2, 2 + length)))]
        for one in trees:
            for other in trees + [leaf(0), leaf(1), tree_of(leaf(-5), 99, None), rising(list(range(30)))]:
                with self.assertRaises(CreditError) as told:
                    tie_trees(one, other)
                self.assertIs(type(told.exception), Mixed)
        with self.assertRaises(Mixed):
            tie_trees(tree_of(None, 1, leaf(9)), leaf(5))
        with self.assertRaises(Mixed):
            tie_trees(leaf(5), tree_of(leaf(1), 9, None))


class Taking(ChangingCase):
    def test_none_and_one_key(self):
        self.assertEqual(take_key(None, 5), (False, None, [], []))
        self.assertEqual(take_key(leaf(5), 5), (True, None, [], []))
        self.assertEqual(take_key(leaf(5), 4), (False, leaf(5), [], []))

    def test_sides(self):
        self.assertEqual(take_key(tree_of(leaf(1), 3, None), 3), (True, leaf(1), [], []))
        self.assertEqual(take_key(tree_of(None, 3, leaf(5)), 3), (True, leaf(5), [], []))
        self.assertEqual(take_key(tree_of(leaf(1), 3, leaf(5)), 3), (True, tree_of(None, 1, leaf(5)), [], []))
        tree = tree_of(tree_of(None, 1, leaf(2)), 3, leaf(5))
        turned = tree_of(leaf(1), 2, None)
        self.assertEqual(take_key(tree, 3), (True, tree_of(leaf(1), 2, leaf(5)), [], [("single", turned)]))
        self.assertEqual(take_key(tree_of(tree_of(None, 1, leaf(2)), 3, None), 3),
                         (True, tree_of(None, 1, leaf(2)), [], []))

    def test_many_trees(self):
        for tree in some_trees():
            keys = sorted_keys(tree)
            for number in numbers_about(tree):
                told = take_key(tree, number)
                self.hold_tuple(told, bool, "tree", list, list)
                self.assertEqual(told, self.wanted(tree, number))
                self.assertIs(told[0], number in keys)
                self.assertEqual(sorted_keys(told[1]), [key for key in keys if key != number])
                behind = len(told[2]) + len(told[3]) + tree_credit(told[1])
                self.assertLessEqual(behind, tree_credit(tree) + take_price(len(keys)))

    def wanted(self, tree, number):
        whole, trail = asked(tree, number)
        if whole is None or whole[1] != number:
            return (False, whole, trail, [])
        left, second = plain_tie(whole[0], whole[2])
        return (True, left, trail, second)


class Prices(ChangingCase):
    def test_of_no_keys(self):
        self.assertEqual((put_price(0), take_price(0)), (1, 0))
        self.assertEqual([tie_price(0, 0), tie_price(0, 7), tie_price(7, 0)], [0, 0, 0])

    def test_of_keys(self):
        self.assertEqual([put_price(n) for n in (1, 2, 3, 7, 8, 60)], [3, 6, 7, 11, 14, 22])
        self.assertEqual([take_price(n) for n in (1, 2, 3, 4, 60)], [5, 10, 10, 15, 30])
        self.assertEqual([tie_price(1, 1), tie_price(1, 3), tie_price(3, 1), tie_price(30, 30)], [2, 3, 5, 14])
        for n in range(1, 70):
            self.assertEqual(put_price(n), 3 * bits(n) - 2 + bits(n + 1))
            self.assertEqual(take_price(n), 5 * bits(n))
            for m in range(1, 70):
                self.assertEqual(tie_price(n, m), 2 * bits(n) + bits(n + m) - 2)


class AgainstASortedRow(ChangingCase):
    def run_deeds(self, seed, many_deeds, most):
        chance = random.Random(seed)
        self.tree, self.plain, self.book = None, [], Ledger()
        for turn in range(many_deeds):
            number = chance.randrange(-most, most)
            deed = chance.choice((self.put, self.put, self.take, self.ask, self.at, self.below, self.cut_and_tie))
            deed(number)
            self.assertTrue(in_form(self.tree))
            self.assertEqual(sorted_keys(self.tree), self.plain)
            self.assertEqual(self.book.credit(), tree_credit(self.tree))
        self.assertGreaterEqual(self.book.spare(), 0)

    def enter(self, tree, steps, price):
        self.tree = tree
        self.book.enter("deed", steps, price, tree_credit(tree))

    def put(self, number):
        price = put_price(len(self.plain))
        came, tree, trail = put_key(self.tree, number)
        self.assertIs(came, number not in self.plain)
        self.plain = sorted(set(self.plain) | {number})
        self.enter(tree, len(trail), price)

    def take(self, number):
        price = take_price(len(self.plain))
        there, tree, trail, second = take_key(self.tree, number)
        self.assertIs(there, number in self.plain)
        self.plain = [key for key in self.plain if key != number]
        self.enter(tree, len(trail) + len(second), price)

    def ask(self, number):
        there, tree, trail = ask_tree(self.tree, number)
        self.assertIs(there, number in self.plain)
        self.enter(tree, len(trail), ask_price(len(self.plain)))

    def at(self, number):
        if self.plain:
            place = number % len(self.plain)
            key, tree, trail = key_at(self.tree, place)
            self.assertEqual(key, self.plain[place])
            self.enter(tree, len(trail), ask_price(len(self.plain)))

    def below(self, number):
        told, tree, trail = count_below(self.tree, number)
        self.assertEqual(told, len([key for key in self.plain if key < number]))
        self.enter(tree, len(trail), ask_price(len(self.plain)))

    def cut_and_tie(self, number):
        one, other, trail = cut_tree(self.tree, number)
        self.assertEqual(sorted_keys(one) + sorted_keys(other), self.plain)
        self.book.enter("cut", len(trail), ask_price(len(self.plain)), tree_credit(one) + tree_credit(other))
        tree, trail = tie_trees(one, other)
        self.enter(tree, len(trail), tie_price(many(one), many(other)))

    def test_long_rows_of_deeds(self):
        for seed in range(12):
            self.run_deeds(seed, 300, (3, 12, 40)[seed % 3])

    def test_sixty_rising_then_taken(self):
        self.tree, self.plain, self.book = None, [], Ledger()
        for number in range(60):
            self.put(number)
        self.assertEqual(self.tree, rising(list(range(60))))
        for number in range(60):
            self.take(number)
        self.assertIsNone(self.tree)
        self.assertEqual(self.book.credit(), 0)

    def test_told_trails_belong_to_the_asker(self):
        tree = rising(list(range(9)))
        for deed in (lambda: put_key(tree, -1), lambda: put_key(None, 1), lambda: cut_tree(tree, 0),
                     lambda: cut_tree(None, 0), lambda: tie_trees(falling([1, 2, 3]), leaf(7)),
                     lambda: tie_trees(None, tree), lambda: take_key(tree, 4), lambda: take_key(None, 4)):
            wanted = [list(part) if isinstance(part, list) else part for part in deed()]
            for part in deed():
                if isinstance(part, list):
                    part.append("spoilt")
            self.assertEqual(list(deed()), wanted)
        self.assertEqual(tree, rising(list(range(9))))


if __name__ == "__main__":
    unittest.main()
