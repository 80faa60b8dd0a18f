"""Point [20], and of [2] and [4] what speaks of asking."""

import unittest

from creditworks.asking import ask_price, ask_tree, count_below, key_at
from creditworks.errors import CreditError, NoPlace
from creditworks.ledgers import Ledger
from creditworks.trees import tree_credit, tree_of, way_to
from tests.samples import NO_NUMBERS
from tests.treeing import (all_trees, bits, deep_trees, falling, in_form, leaf, many, numbers_about, plain_trail,
                           plain_way, rising, sorted_keys)


def some_trees():
    return [tree for length in range(6) for tree in all_trees(list(range(0, 3 * length, 3)))] + deep_trees()


class AskingCase(unittest.TestCase):
    # The key that is to come up, and all that is promised of any of the three askings.
    def hold_asked(self, tree, key, told):
        self.assertIs(type(told), tuple)
        self.assertEqual(len(told), 3)
        answer, asked, trail = told
        self.assertIs(type(trail), list)
        self.assertEqual(trail, plain_trail(tree, key))
        for turning in trail:
            self.assertIs(type(turning), tuple)
        self.assertEqual(asked, trail[-1][1] if trail else tree)
        self.assertTrue(in_form(asked))
        self.assertEqual(sorted_keys(asked), sorted_keys(tree))
        if tree is not None:
            self.assertEqual(asked[1], key)
            self.assertLessEqual(len(way_to(tree, key)), 2 * len(trail) + 1)
        self.assertLessEqual(len(trail) + tree_credit(asked), tree_credit(tree) + ask_price(many(tree)))
        return answer


class ForANumber(AskingCase):
    def test_none(self):
        for number in (-5, 0, 10 ** 60 - 1):
            self.assertEqual(ask_tree(None, number), (False, None, []))

    def test_one_key(self):
        self.assertEqual(ask_tree(leaf(5), 5), (True, leaf(5), []))
        self.assertEqual(ask_tree(leaf(5), 4), (False, leaf(5), []))
        self.assertEqual(ask_tree(leaf(5), 6), (False, leaf(5), []))

    def test_turning_by_turning(self):
        tree = rising([1, 2, 3, 4])
        first = tree_of(tree_of(None, 1, tree_of(None, 2, leaf(3))), 4, None)
        second = tree_of(None, 1, tree_of(tree_of(None, 2, leaf(3)), 4, None))
        self.assertEqual(ask_tree(tree, 1), (True, second, [("straight", first), ("single", second)]))
        self.assertEqual(ask_tree(tree, 0), (False, second, [("straight", first), ("single", second)]))
        self.assertEqual(ask_tree(tree, 4), (True, tree, []))
        self.assertEqual(ask_tree(tree, 9), (False, tree, []))

    def test_many_trees(self):
        for tree in some_trees():
            for number in numbers_about(tree):
                key = plain_way(tree, number)[-1] if tree is not None else None
                answer = self.hold_asked(tree, key, ask_tree(tree, number))
                self.assertIs(answer, number in sorted_keys(tree))

    def test_the_deep_end_of_sixty(self):
        keys = list(range(60))
        for tree, deep in ((rising(keys), 0), (falling(keys), 59)):
            told = ask_tree(tree, deep)
            self.assertIs(self.hold_asked(tree, deep, told), True)
            self.assertEqual([kind for kind, whole in told[2]], ["straight"] * 29 + ["single"])


class ForAPlace(AskingCase):
    def refuse(self, tree, place):
        with self.assertRaises(CreditError, msg=place) as told:
            key_at(tree, place)
        self.assertIs(type(told.exception), NoPlace)

    def test_one_key(self):
        self.assertEqual(key_at(leaf(5), 0), (5, leaf(5), []))

    def test_turning_by_turning(self):
        tree = tree_of(tree_of(leaf(1), 3, leaf(5)), 7, leaf(9))
        first = tree_of(tree_of(leaf(1), 3, None), 5, tree_of(None, 7, leaf(9)))
        self.assertEqual(key_at(tree, 2), (5, first, [("bent", first)]))
        self.assertEqual(key_at(tree, 3), (7, tree, []))

    def test_every_place_of_many_trees(self):
        for tree in some_trees():
            keys = sorted_keys(tree)
            for place, key in enumerate(keys):
                self.assertEqual(self.hold_asked(tree, key, key_at(tree, place)), key)

    def test_what_is_no_place(self):
        for tree in (None, leaf(5), tree_of(leaf(1), 3, leaf(5)), rising(list(range(60)))):
            for place in NO_NUMBERS + (-1, -2, many(tree), many(tree) + 1, 10 ** 60 - 1, -10 ** 59):
                self.refuse(tree, place)
        for place in (0, 1):
            self.refuse(None, place)


class HowManyBelow(AskingCase):
    def test_none(self):
        for number in (-5, 0, 10 ** 60 - 1):
            self.assertEqual(count_below(None, number), (0, None, []))

    def test_one_key(self):
        self.assertEqual([count_below(leaf(5), number) for number in (4, 5, 6)],
                         [(0, leaf(5), []), (0, leaf(5), []), (1, leaf(5), [])])

    def test_many_trees(self):
        for tree in some_trees():
            keys = sorted_keys(tree)
            for number in numbers_about(tree):
                key = plain_way(tree, number)[-1] if tree is not None else None
                told = count_below(tree, number)
                self.assertEqual(told[1:], ask_tree(tree, number)[1:])
                answer = self.hold_asked(tree, key, told)
                self.assertEqual(answer, sum(1 for key in keys if key < number))
                self.assertIs(type(answer), int)


class Paying(AskingCase):
    def test_prices(self):
        self.assertEqual([ask_price(n) for n in (0, 1, 2, 3, 4, 7, 8, 60, 63, 64)], [0, 1, 4, 4, 7, 7, 10, 16, 16, 19])
        for n in range(1, 200):
            self.assertEqual(ask_price(n), 3 * bits(n) - 2)

    def test_rows_of_askings(self):
        for tree in deep_trees():
            keys = sorted_keys(tree)
            ledger = Ledger()
            ledger.enter("begin", 0, tree_credit(tree), tree_credit(tree))
            for turn in range(200):
                number = keys[turn * turn * 7 % len(keys)] + turn % 3 - 1
                if turn % 4 == 0:
                    tree, trail = key_at(tree, turn % len(keys))[1:]
                elif turn % 4 == 1:
                    tree, trail = count_below(tree, number)[1:]
                else:
                    tree, trail = ask_tree(tree, number)[1:]
                ledger.enter("ask", len(trail), ask_price(len(keys)), tree_credit(tree))
                self.assertEqual(sorted_keys(tree), keys)

    def test_told_trails_belong_to_the_asker(self):
        tree = rising(list(range(9)))
        for deed in (lambda: ask_tree(tree, 0), lambda: key_at(tree, 0), lambda: count_below(tree, 0),
                     lambda: ask_tree(tree, 8), lambda: ask_tree(None, 8), lambda: count_below(None, 8)):
            wanted = deed()
            wanted = (wanted[0], wanted[1], list(wanted[2]))
            deed()[2].append("spoilt")
            self.assertEqual(deed(), wanted)
        self.assertEqual(tree, rising(list(range(9))))


if __name__ == "__main__":
    unittest.main()
