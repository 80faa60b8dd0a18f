"""Points [27] and [28], and of [2] and [4] what speaks of keys made less and names put out."""

import copy
import random
import unittest

from creditworks.errors import CreditError, Lacking, NotLess
from creditworks.hanging import take_least
from creditworks.ledgers import Ledger
from creditworks.lessening import make_less, put_out
from creditworks.piles import most_below, no_pile, pile_credit, pile_put, pour_piles
from tests.piling import grown_pile, keys_by_name, name_of, pile_of, plain_form, plain_least, some_piles
from tests.test_hanging import replay

GREAT = 10 ** 60 - 1


# a, and below it one name each: b, c, d, e, those of b, c and d with a mark or not.
def chain_of(b, c, d):
    return pile_of(("a", 0, False, [("b", 1, b, [("c", 2, c, [("d", 3, d, [("e", 4, False, ())])])])]))


# The cutting of point [27], told by itself once more for each name above.
def plain_cut(tops, held, name):
    above = held[name][1]
    up = held[above]
    held[above] = up[:3] + (tuple(lower for lower in up[3] if lower != name),)
    held[name] = (held[name][0], None, False, held[name][3])
    tops.append(name)
    steps = [("cut", name)]
    if held[above][1] is None:
        return steps
    if held[above][2]:
        return steps + plain_cut(tops, held, above)
    held[above] = held[above][:2] + (True,) + held[above][3:]
    return steps


class LessCase(unittest.TestCase):
    def hold_pile(self, pile, handed):
        self.assertEqual((type(pile), type(pile[0]), type(pile[1])), (tuple, list, dict))
        self.assertIsNot(pile[0], handed[0])
        self.assertIsNot(pile[1], handed[1])
        for row in pile[1].values():
            self.assertEqual((type(row), len(row), type(row[2]), type(row[3])), (tuple, 4, bool, tuple))
        self.assertTrue(plain_form(pile))

    def hold_less(self, pile, name, key):
        handed = copy.deepcopy(pile)
        told = make_less(handed, name, key)
        self.assertEqual(handed, pile)
        self.assertEqual((type(told), len(told), type(told[1])), (tuple, 2, list))
        self.hold_pile(told[0], handed)
        tops, held = copy.deepcopy(pile)
        held[name] = (key,) + held[name][1:]
        above = held[name][1]
        steps = []
        if above is not None and (key, name) < (held[above][0], above):
            steps = plain_cut(tops, held, name)
        self.assertEqual(told, ((tops, held), steps))
        self.assertLessEqual(len(steps) + pile_credit(told[0]), pile_credit(pile) + 4)
        return told[0]

    def hold_out(self, pile, name):
        handed = copy.deepcopy(pile)
        told = put_out(handed, name)
        self.assertEqual(handed, pile)
        self.assertEqual((type(told), len(told), type(told[2])), (tuple, 3, list))
        key, left, steps = told
        self.hold_pile(left, handed)
        self.assertEqual(key, pile[1][name][0])
        tops, held = copy.deepcopy(pile)
        cuts = plain_cut(tops, held, name) if held[name][1] is not None else []
        self.assertEqual(steps[:len(cuts)], cuts)
        tops.remove(name)
        freed = held.pop(name)[3]
        self.assertEqual(left, replay(self, tops, held, freed, steps[len(cuts):]))
        price = 4 + 2 * most_below(len(pile[1]))
        self.assertLessEqual(len(steps) + pile_credit(left), pile_credit(pile) + price)
        return left

    def refuse(self, kind, deed, pile, *handed):
        kept = copy.deepcopy(pile)
        with self.assertRaises(CreditError) as told:
            deed(pile, *handed)
        self.assertIs(type(told.exception), kind, handed)
        self.assertEqual(pile, kept)


class Lessening(LessCase):
    def test_a_top(self):
        self.assertEqual(make_less(pile_of(("a", 5, False, ())), "a", 4), (pile_of(("a", 4, False, ())), []))
        pile = pile_of(("a", 5, False, (("b", 6, False, ()),)))
        self.assertEqual(make_less(pile, "a", -GREAT), (pile_of(("a", -GREAT, False, (("b", 6, False, ()),))), []))

    def test_nothing_is_cut_where_it_is_not_less_than_the_one_above(self):
        pile = pile_of(("a", 5, False, (("b", 9, False, ()),)))
        self.assertEqual(make_less(pile, "b", 6), (pile_of(("a", 5, False, (("b", 6, False, ()),))), []))
        self.assertEqual(make_less(pile, "b", 5), (pile_of(("a", 5, False, (("b", 5, False, ()),))), []))
        marked = pile_of(("a", 5, False, (("b", 9, True, ()),)))
        self.assertEqual(make_less(marked, "b", 6), (pile_of(("a", 5, False, (("b", 6, True, ()),))), []))

    def test_keys_alike_are_told_apart_by_text(self):
        pile = pile_of(("b", 5, False, (("a", 9, False, ()),)))
        self.assertEqual(make_less(pile, "a", 5), (pile_of(("b", 5, False, ()), ("a", 5, False, ())), [("cut", "a")]))

    def test_one_name_is_cut_from_a_top(self):
        pile = pile_of(("a", 5, False, (("b", 9, True, (("c", 9, False, ()),)), ("d", 7, True, ()))), ("z", 0, False, ()))
        wanted = pile_of(("a", 5, False, (("d", 7, True, ()),)), ("z", 0, False, ()),
                         ("b", 4, False, (("c", 9, False, ()),)))
        self.assertEqual(make_less(pile, "b", 4), (wanted, [("cut", "b")]))

    def test_the_one_above_gets_a_mark(self):
        told = make_less(chain_of(False, False, False), "d", -1)
        wanted = pile_of(("a", 0, False, [("b", 1, False, [("c", 2, True, ())])]),
                         ("d", -1, False, [("e", 4, False, ())]))
        self.assertEqual(told, (wanted, [("cut", "d")]))

    def test_several_above_are_cut_in_turn(self):
        told = make_less(chain_of(False, True, True), "e", -1)
        wanted = pile_of(("a", 0, False, [("b", 1, True, ())]), ("e", -1, False, ()), ("d", 3, False, ()),
                         ("c", 2, False, ()))
        self.assertEqual(told, (wanted, [("cut", "e"), ("cut", "d"), ("cut", "c")]))
        told = make_less(chain_of(True, True, True), "e", -1)
        wanted = pile_of(("a", 0, False, ()), ("e", -1, False, ()), ("d", 3, False, ()), ("c", 2, False, ()),
                         ("b", 1, False, ()))
        self.assertEqual(told, (wanted, [("cut", "e"), ("cut", "d"), ("cut", "c"), ("cut", "b")]))
        told = make_less(chain_of(True, False, True), "e", -1)
        self.assertEqual(told[1], [("cut", "e"), ("cut", "d")])
        self.assertEqual(told[0][1]["c"], (2, "b", True, ()))

    def test_others_below_stay_in_their_order(self):
        pile = pile_of(("a", 0, False, [("b", 1, False, ()), ("c", 1, True, ()),
                                        ("d", 1, True, [("e", 2, False, ())]),
                                        ("g", 1, True, [("h", 2, False, ()), ("i", 3, True, ())])]))
        self.assertEqual(make_less(pile, "c", -1)[0][1]["a"], (0, None, False, ("b", "d", "g")))
        self.assertEqual(make_less(pile, "b", -1)[0][1]["a"], (0, None, False, ("c", "d", "g")))
        self.assertEqual(make_less(pile, "g", -1)[0][1]["a"], (0, None, False, ("b", "c", "d")))

    def test_many_piles(self):
        for pile in some_piles():
            for name in list(pile[1]):
                old = pile[1][name][0]
                for key in (old - 1, old - 2, old - 5, -20, -GREAT):
                    if key < old:
                        self.hold_less(pile, name, key)

    def test_a_name_that_is_not_there(self):
        for pile in some_piles():
            for name in ("zzzz", "", "A", "abcdefghij", "a b"):
                self.refuse(Lacking, make_less, pile, name, 3)
                self.refuse(Lacking, make_less, pile, name, -GREAT)

    def test_a_key_that_is_not_less(self):
        for pile in some_piles():
            for name in list(pile[1]):
                old = pile[1][name][0]
                for key in (old, old + 1, GREAT):
                    self.refuse(NotLess, make_less, pile, name, key)


class PuttingOut(LessCase):
    def test_a_top(self):
        self.assertEqual(put_out(pile_of(("a", 5, False, ())), "a"), (5, no_pile(), []))
        pile = pile_of(("a", 5, False, ()), ("b", 1, False, (("c", 7, True, ()),)))
        wanted = pile_of(("a", 5, False, (("c", 7, False, ()),)))
        self.assertEqual(put_out(pile, "b"), (1, wanted, [("free", "c"), ("hang", "c", "a")]))
        self.assertEqual(put_out(pile, "a"), (5, pile_of(("b", 1, False, (("c", 7, True, ()),))), []))

    def test_one_that_hangs(self):
        pile = pile_of(("a", 5, False, (("b", 9, False, ()),)))
        self.assertEqual(put_out(pile, "b"), (9, pile_of(("a", 5, False, ())), [("cut", "b")]))
        told = put_out(chain_of(False, True, True), "e")
        wanted = pile_of(("a", 0, False, [("b", 1, True, ()), ("c", 2, False, [("d", 3, False, ())])]))
        self.assertEqual(told, (4, wanted, [("cut", "e"), ("cut", "d"), ("cut", "c"), ("hang", "d", "c"),
                                            ("hang", "c", "a")]))

    def test_many_piles(self):
        for pile in some_piles():
            for name in list(pile[1]):
                self.hold_out(pile, name)

    def test_a_name_that_is_not_there(self):
        for pile in some_piles():
            for name in ("zzzz", "", "A", "abcdefghij", "a b"):
                self.refuse(Lacking, put_out, pile, name)


class Keeping(LessCase):
    def test_told_piles_belong_to_the_asker(self):
        for deed in (lambda pile: make_less(pile, "e", -1), lambda pile: make_less(pile, "e", 3),
                     lambda pile: make_less(pile, "a", -1), lambda pile: put_out(pile, "e"),
                     lambda pile: put_out(pile, "a")):
            pile = chain_of(False, True, False)
            wanted = copy.deepcopy(deed(pile))
            told = deed(pile)
            told[-2][0].append("spoilt")
            told[-2][1].clear()
            told[-1].clear()
            self.assertEqual(pile, chain_of(False, True, False))
            self.assertEqual(deed(pile), wanted)
            told = deed(pile)
            pile[0].clear()
            pile[1].clear()
            self.assertEqual(told, wanted)


class AgainstADict(LessCase):
    def run_deeds(self, seed, many_deeds, spread):
        chance = random.Random(seed)
        pile, plain, ledger, used = no_pile(), {}, Ledger(), 0
        cuts = 0
        for turn in range(many_deeds):
            sort = chance.choice(("put", "put", "less", "less", "less", "draw", "out", "pour"))
            price = 2 * most_below(len(plain))
            steps = []
            name = chance.choice(sorted(plain)) if plain else None
            if sort == "put" or name is None:
                pile = pile_put(pile, name_of(used), chance.randrange(spread))
                plain[name_of(used)] = pile[1][name_of(used)][0]
                used += 1
                price = 1
            elif sort == "less":
                plain[name] -= chance.randrange(1, spread)
                pile, steps = make_less(pile, name, plain[name])
                price = 4
                cuts = max(cuts, len(steps))
            elif sort == "draw":
                name = plain_least(pile)
                self.assertEqual(take_least(pile)[:2], (name, plain.pop(name)))
                pile, steps = take_least(pile)[2:]
            elif sort == "out":
                key, pile, steps = put_out(pile, name)
                self.assertEqual(key, plain.pop(name))
                price += 4
            else:
                pile = pour_piles(pile, no_pile())
                price = 0
            ledger.enter(sort, len(steps), price, pile_credit(pile))
            self.assertEqual(keys_by_name(pile), plain)
            self.assertTrue(plain_form(pile))
        self.assertGreaterEqual(ledger.spare(), 0)
        return cuts

    def test_long_rows_of_deeds(self):
        cuts = [self.run_deeds(seed, 500, (3, 8, 30)[seed % 3]) for seed in range(12)]
        self.assertGreater(max(cuts), 1)

    def test_deep_cuts_pay_for_themselves(self):
        for seed in range(20):
            pile = grown_pile(seed, (5, 3), 4, 0)
            for name in sorted(pile[1], key=lambda one: (seed * len(one) + ord(one[-1])) % 7):
                pile = self.hold_less(pile, name, -50 - len(pile[0]))


if __name__ == "__main__":
    unittest.main()
