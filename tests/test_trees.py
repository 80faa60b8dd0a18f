"""Points [16] and [17], and of [2] and [4] what speaks of trees."""

import unittest

from creditworks.trees import keys_of, many_of, tree_credit, tree_of, way_to
from tests.treeing import (all_trees, deep_trees, falling, in_form, leaf, many, numbers_about, plain_credit, plain_way,
                           rising, sorted_keys)

GREAT = 10 ** 60 - 1


def some_trees():
    told = [tree for length in range(6) for tree in all_trees(list(range(0, 2 * length, 2)))]
    return told + deep_trees() + [leaf(GREAT), leaf(-GREAT), ((leaf(-GREAT), 0, leaf(GREAT), 3))]


class Making(unittest.TestCase):
    def test_one_key(self):
        self.assertEqual(tree_of(None, 5, None), (None, 5, None, 1))

    def test_sides(self):
        self.assertEqual(tree_of(leaf(1), 5, None), ((None, 1, None, 1), 5, None, 2))
        self.assertEqual(tree_of(None, 5, leaf(9)), (None, 5, (None, 9, None, 1), 2))
        self.assertEqual(tree_of(leaf(1), 5, leaf(9)), ((None, 1, None, 1), 5, (None, 9, None, 1), 3))

    def test_all_are_in_form(self):
        for tree in some_trees():
            if tree is not None:
                made = tree_of(tree[0], tree[1], tree[2])
                self.assertEqual(made, tree)
                self.assertTrue(in_form(made))


class Asking(unittest.TestCase):
    def test_none(self):
        self.assertEqual((many_of(None), keys_of(None), way_to(None, 3), tree_credit(None)), (0, [], [], 0))

    def test_one_key(self):
        tree = leaf(7)
        self.assertEqual((many_of(tree), keys_of(tree), tree_credit(tree)), (1, [7], 1))
        self.assertEqual([way_to(tree, number) for number in (6, 7, 8)], [[7], [7], [7]])

    def test_many_trees(self):
        for tree in some_trees():
            self.assertEqual(many_of(tree), many(tree))
            self.assertEqual(keys_of(tree), sorted_keys(tree))
            self.assertEqual(tree_credit(tree), plain_credit(tree))
            self.assertEqual([type(told) for told in (many_of(tree), keys_of(tree), tree_credit(tree))],
                             [int, list, int])
            for number in numbers_about(tree):
                way = way_to(tree, number)
                self.assertIs(type(way), list)
                self.assertEqual(way, plain_way(tree, number))

    def test_ways_in_a_tree(self):
        tree = ((leaf(1), 3, leaf(5), 3), 7, (None, 9, leaf(11), 2), 6)
        for number, way in ((7, [7]), (3, [7, 3]), (5, [7, 3, 5]), (9, [7, 9]), (11, [7, 9, 11]), (0, [7, 3, 1]),
                            (4, [7, 3, 5]), (6, [7, 3, 5]), (8, [7, 9]), (10, [7, 9, 11]), (12, [7, 9, 11])):
            self.assertEqual(way_to(tree, number), way)

    def test_credit_of_rising_and_falling_trees(self):
        for length in range(61):
            wanted = sum(len(bin(number)) - 2 for number in range(1, length + 1))
            self.assertEqual(tree_credit(rising(list(range(length)))), wanted)
            self.assertEqual(tree_credit(falling(list(range(length)))), wanted)
        self.assertEqual(tree_credit(((leaf(1), 3, leaf(5), 3), 7, leaf(9), 5)), 3 + 2 + 1 + 1 + 1)

    def test_deeper_trees_than_calls_may_go(self):
        keys = list(range(5000))
        tree = None
        for key in keys:
            tree = tree_of(tree, key, None)
        self.assertEqual(many_of(tree), 5000)
        self.assertEqual(keys_of(tree), keys)
        self.assertEqual(way_to(tree, -1), keys[::-1])
        self.assertEqual(tree_credit(tree), sum(number.bit_length() for number in range(1, 5001)))

    def test_told_lists_belong_to_the_asker(self):
        for tree in (None, leaf(3), ((leaf(1), 3, None, 2), 7, leaf(9), 4)):
            for deed in (keys_of, lambda handed: way_to(handed, 3)):
                wanted = list(deed(tree))
                deed(tree).append("spoilt")
                self.assertEqual(deed(tree), wanted)


if __name__ == "__main__":
    unittest.main()
