"""Points [18] and [19], and of [2] and [4] what speaks of one turning."""

import unittest

from creditworks.errors import AtTop, CreditError, Lacking
from creditworks.trees import tree_credit, tree_of
from creditworks.turning import turn_key
from tests.treeing import (all_trees, bits, deep_trees, in_form, leaf, many, numbers_about, part_of, plain_turning,
                           sorted_keys)

A, B, C, D = leaf(0), leaf(10), leaf(20), leaf(30)


def some_trees():
    return [tree for length in range(7) for tree in all_trees(list(range(0, 3 * length, 3)))] + deep_trees()


class TurningCase(unittest.TestCase):
    def refuse(self, kind, tree, key):
        with self.assertRaises(CreditError) as told:
            turn_key(tree, key)
        self.assertIs(type(told.exception), kind)


class TheThreeKinds(TurningCase):
    def test_single(self):
        low = tree_of(tree_of(A, 5, B), 15, C)
        high = tree_of(A, 5, tree_of(B, 15, C))
        self.assertEqual(turn_key(low, 5), ("single", high))
        self.assertEqual(turn_key(high, 15), ("single", low))
        self.assertEqual(turn_key((leaf(1), 2, None, 2), 1), ("single", (None, 1, leaf(2), 2)))
        self.assertEqual(turn_key((None, 1, leaf(2), 2), 2), ("single", (leaf(1), 2, None, 2)))

    def test_straight(self):
        left = tree_of(tree_of(tree_of(A, 5, B), 15, C), 25, D)
        right = tree_of(A, 5, tree_of(B, 15, tree_of(C, 25, D)))
        self.assertEqual(turn_key(left, 5), ("straight", right))
        self.assertEqual(turn_key(right, 25), ("straight", left))

    def test_bent(self):
        wanted = tree_of(tree_of(A, 5, B), 15, tree_of(C, 25, D))
        self.assertEqual(turn_key(tree_of(tree_of(A, 5, tree_of(B, 15, C)), 25, D), 15), ("bent", wanted))
        self.assertEqual(turn_key(tree_of(A, 5, tree_of(tree_of(B, 15, C), 25, D)), 15), ("bent", wanted))

    def test_below_other_parts_all_else_stays(self):
        left = tree_of(tree_of(tree_of(A, 5, B), 15, C), 25, D)
        right = tree_of(A, 5, tree_of(B, 15, tree_of(C, 25, D)))
        self.assertEqual(turn_key(tree_of(left, 35, leaf(40)), 5), ("straight", tree_of(right, 35, leaf(40))))
        self.assertEqual(turn_key(tree_of(leaf(-9), -5, right), 25), ("straight", tree_of(leaf(-9), -5, left)))
        bent = tree_of(tree_of(A, 5, B), 15, tree_of(C, 25, D))
        low = tree_of(tree_of(A, 5, tree_of(B, 15, C)), 25, D)
        self.assertEqual(turn_key(tree_of(None, -5, tree_of(low, 35, None)), 15),
                         ("bent", tree_of(None, -5, tree_of(bent, 35, None))))

    def test_one_turned_and_the_other_turned_back(self):
        for tree in some_trees():
            for side in (0, 2):
                if tree is not None and tree[side] is not None:
                    kind, turned = turn_key(tree, tree[side][1])
                    self.assertEqual(kind, "single")
                    self.assertEqual(turn_key(turned, tree[1]), ("single", tree))


class ManyTrees(TurningCase):
    def test_each_key_of_each_tree(self):
        for tree in some_trees():
            for key in sorted_keys(tree):
                if key != tree[1]:
                    self.hold_turned(tree, key)

    def hold_turned(self, tree, key):
        told = turn_key(tree, key)
        self.assertIs(type(told), tuple)
        self.assertEqual(told, plain_turning(tree, key))
        kind, turned = told
        self.assertTrue(in_form(turned))
        self.assertEqual(sorted_keys(turned), sorted_keys(tree))
        gained = bits(many(part_of(turned, key))) - bits(many(part_of(tree, key)))
        price = 3 * gained + (1 if kind == "single" else 0)
        self.assertLessEqual(1 + tree_credit(turned), tree_credit(tree) + price)


class Refusing(TurningCase):
    def test_a_key_that_is_not_there(self):
        for number in (-10 ** 59, -1, 0, 1, 10 ** 60 - 1):
            self.refuse(Lacking, None, number)
        for tree in some_trees():
            keys = sorted_keys(tree)
            for number in numbers_about(tree):
                if number not in keys:
                    self.refuse(Lacking, tree, number)

    def test_the_whole_trees_key(self):
        for tree in some_trees():
            if tree is not None:
                self.refuse(AtTop, tree, tree[1])


if __name__ == "__main__":
    unittest.main()
