"""Points [23], [24] and [25], and of [2], [3] and [4] what speaks of piles."""

import copy
import random
import unittest

from creditworks.errors import CreditError, Empty, NoName, Twice
from creditworks.ledgers import Ledger
from creditworks.piles import least_name, most_below, no_pile, pile_credit, pile_in_form, pile_put, pour_piles
from tests.piling import (coming_to, f, grown_pile, keys_by_name, least_pile, name_of, pile_of, plain_form, plain_least,
                          plain_most, plain_pile_credit, some_piles)

GREAT = 10 ** 60 - 1
NAMES = ("a", "z", "m", "ab", "zz", "abcdefgh", "zzzzzzzz", "none", "true")
NO_NAMES = ("", " ", "abcdefghi", "A", "aB", "a1", "1", "a b", " a", "a ", "a_b", "a-b", "-", "{", "`", "~", "a\n", "\n",
            None, True, False, 0, 1, -1, 1.5, [], ["a"], (), ("a",), ("a", "b"), {}, {"a": 1}, b"a", {"a"},
            frozenset("a"), object(), str, len)


class PileCase(unittest.TestCase):
    def hold_pile(self, pile, handed):
        self.assertIs(type(pile), tuple)
        self.assertEqual([type(part) for part in pile], [list, dict])
        for row in pile[1].values():
            self.assertEqual((type(row), len(row), type(row[2]), type(row[3])), (tuple, 4, bool, tuple))
        self.assertTrue(plain_form(pile))
        for other in handed:
            self.assertIsNot(pile[0], other[0])
            self.assertIsNot(pile[1], other[1])

    def refuse(self, kind, deed, *handed):
        kept = copy.deepcopy(handed[0])
        with self.assertRaises(CreditError, msg=handed) as told:
            deed(*handed)
        self.assertIs(type(told.exception), kind, handed)
        self.assertEqual(handed[0], kept)


class WithoutNames(PileCase):
    def test_no_pile(self):
        self.assertEqual(no_pile(), ([], {}))
        self.hold_pile(no_pile(), [no_pile()])
        self.assertIs(pile_in_form(no_pile()), True)
        self.assertEqual(pile_credit(no_pile()), 0)
        self.refuse(Empty, least_name, no_pile())

    def test_it_belongs_to_the_asker(self):
        told = no_pile()
        told[0].append("a")
        told[1]["a"] = 1
        self.assertEqual(no_pile(), ([], {}))


class Form(PileCase):
    def hold(self, pile, wanted):
        handed = copy.deepcopy(pile)
        self.assertIs(pile_in_form(handed), wanted, pile)
        self.assertEqual(handed, pile)

    def broken(self, name, place, value):
        tops, held = self.good()
        row = list(held[name])
        row[place] = value
        held[name] = tuple(row)
        return (tops, held)

    # d has c, b and a below it, in this order; a has e.
    def good(self):
        return pile_of(("d", 1, False, (("c", 1 + 1, False, ()), ("b", 5, True, ()),
                                        ("a", 7, True, (("e", 7, False, ()),)))), ("z", 0, False, ()))

    def test_in_form(self):
        self.hold(self.good(), True)
        for pile in some_piles():
            self.assertTrue(plain_form(pile))
            self.hold(pile, True)

    def test_tops_are_those_above_none_each_once(self):
        tops, held = self.good()
        self.hold((["z", "d"], held), True)
        for wrong in ([], ["d"], ["d", "d"], ["d", "z", "d"], ["d", "z", "z"], ["d", "z", "c"], ["d", "z", "x"],
                      ["d", "x"]):
            self.hold((wrong, held), False)
        self.hold((["a"], {}), False)
        self.hold(([], {"a": (1, None, False, ())}), False)

    def test_above_and_below_tell_of_one_another(self):
        self.hold(self.broken("d", 3, ("c", "b")), False)
        self.hold(self.broken("d", 3, ("c", "b", "a", "a")), False)
        self.hold(self.broken("d", 3, ("c", "b", "a", "e")), False)
        self.hold(self.broken("d", 3, ("c", "b", "a", "z")), False)
        self.hold(self.broken("d", 3, ("c", "b", "x")), False)
        self.hold(self.broken("z", 3, ("x",)), False)
        self.hold(self.broken("z", 3, ("c",)), False)
        self.hold(self.broken("c", 1, "z"), False)
        self.hold(self.broken("c", 1, "x"), False)
        self.hold(self.broken("c", 1, None), False)
        self.hold((["d", "z", "c"], self.broken("c", 1, None)[1]), False)
        self.hold(([], {"a": (1, "x", False, ())}), False)
        self.hold((["a"], {"a": (1, None, False, ("x",))}), False)
        self.hold((["a"], {"a": (1, None, False, ("b", "b")), "b": (2, "a", False, ())}), False)
        self.hold((["a"], {"a": (1, None, False, ()), "b": (2, "a", False, ())}), False)

    def test_no_name_is_less_than_the_one_it_hangs_on(self):
        self.hold(self.broken("b", 0, 2), True)
        self.hold(self.broken("b", 0, 1), False)
        self.hold(self.broken("b", 0, 0), False)
        self.hold(self.broken("c", 0, 1), False)
        self.hold(self.broken("e", 0, 6), False)
        self.hold(pile_of(("a", 1, False, (("b", 1, False, ()),))), True)
        self.hold(pile_of(("b", 1, False, (("a", 1, False, ()),))), False)
        self.hold(pile_of(("b", 1, False, (("a", 2, False, ()),))), True)
        self.hold(pile_of(("b", -GREAT, False, (("a", GREAT, False, ()),))), True)

    def test_from_each_name_one_comes_to_a_top(self):
        self.hold(([], {"a": (1, "a", False, ("a",))}), False)
        tops, held = self.good()
        held["x"] = (9, "x", False, ("x",))
        self.hold((tops, held), False)
        self.hold(([], {"a": (1, "b", False, ("b",)), "b": (1, "a", False, ("a",))}), False)

    def test_a_top_has_no_mark(self):
        self.hold(self.broken("d", 2, True), False)
        self.hold(self.broken("z", 2, True), False)
        self.hold(pile_of(("a", 1, True, ())), False)

    def test_how_many_hang_where(self):
        self.hold(self.broken("b", 2, False), False)
        self.hold(self.broken("a", 2, False), False)
        self.hold(self.broken("c", 2, True), True)
        leaves = [(name, 5, False, ()) for name in "bcde"]
        marked = [(name, 5, True, ()) for name in "bcde"]
        self.hold(pile_of(("a", 1, False, leaves[:1])), True)
        self.hold(pile_of(("a", 1, False, leaves[:2])), False)
        self.hold(pile_of(("a", 1, False, marked[:2])), True)
        self.hold(pile_of(("a", 1, False, marked[:3])), False)
        pair = ("x", 2, False, (("y", 3, False, ()),))
        self.hold(pile_of(("a", 1, False, [leaves[0], pair])), True)
        self.hold(pile_of(("a", 1, False, [pair, leaves[0]])), False)
        self.hold(pile_of(("a", 1, False, [pair, marked[0]])), True)
        self.hold(pile_of(("a", 1, False, [leaves[0], marked[1], pair])), False)
        self.hold(pile_of(("a", 1, False, [leaves[0], marked[1], ("x", 2, True, pair[3])])), True)

    def test_many_small_changes_against_the_plain_rule(self):
        chance = random.Random(11)
        told = {True: 0, False: 0}
        for turn in range(3000):
            tops, held = copy.deepcopy(grown_pile(turn % 40, chance.choice(((2, 1), (3,), (1, 1, 2))), 3))
            self.change(chance, tops, held)
            wanted = plain_form((tops, held))
            told[wanted] += 1
            self.hold((tops, held), wanted)
        self.assertGreater(min(told.values()), 300)

    def change(self, chance, tops, held):
        names = list(held) + ["x"]
        name = chance.choice(names[:-1])
        key, above, mark, below = held[name]
        sort = chance.randrange(7)
        if sort == 0:
            key += chance.randrange(-3, 4)
        elif sort == 1:
            above = chance.choice(names + [None])
        elif sort == 2:
            mark = not mark
        elif sort == 3:
            below = below[:-1] + chance.choice(((), (chance.choice(names),)))
        elif sort == 4:
            below = tuple(chance.sample(below, len(below)))
        elif sort == 5:
            chance.shuffle(tops)
        else:
            tops.append(chance.choice(names))
        held[name] = (key, above, mark, below)


class Counting(PileCase):
    def test_credit(self):
        self.assertEqual(pile_credit(pile_of(("a", 1, False, ()), ("b", 1, False, ()))), 2)
        self.assertEqual(pile_credit(pile_of(("a", 1, False, (("b", 2, True, ()),)))), 3)
        for pile in some_piles():
            handed = copy.deepcopy(pile)
            self.assertEqual(pile_credit(handed), plain_pile_credit(pile))
            self.assertIs(type(pile_credit(handed)), int)
            self.assertEqual(handed, pile)

    def test_most_below(self):
        self.assertEqual([most_below(n) for n in range(15)], [0, 0, 1, 2, 2, 3, 3, 3, 4, 4, 4, 4, 4, 5, 5])
        for d in range(1, 200):
            self.assertEqual([most_below(f(d + 2) + more) for more in (-1, 0)], [d - 1, d])
            self.assertEqual(most_below(f(d + 2) + 1), d + 1 if d == 1 else d)
        for n in list(range(300)) + [GREAT, 10 ** 59]:
            self.assertEqual(most_below(n), plain_most(n))
            self.assertIs(type(most_below(n)), int)

    def test_as_many_names_as_the_rule_wants(self):
        for pile in some_piles() + [grown_pile(3, (5, 4), 3, 0)]:
            self.assertIs(pile_in_form(pile), True)
            for name, row in pile[1].items():
                self.assertGreaterEqual(len(coming_to(pile[1], name)), f(len(row[3]) + 2))
                self.assertLessEqual(len(row[3]), most_below(len(pile[1])))

    def test_no_fewer_will_do(self):
        for many in range(9):
            pile = least_pile(many)
            self.assertIs(pile_in_form(pile), True)
            self.assertEqual(len(pile[1]), f(many + 2))
            self.assertEqual(most_below(len(pile[1])), many)


class Putting(PileCase):
    def test_some_puts(self):
        pile = pile_put(no_pile(), "b", 5)
        self.assertEqual(pile, (["b"], {"b": (5, None, False, ())}))
        self.assertEqual(pile_put(pile, "a", -5), (["b", "a"], {"b": (5, None, False, ()), "a": (-5, None, False, ())}))

    def test_into_many_piles(self):
        for pile in some_piles():
            for name, key in (("zzz", 0), ("new", GREAT), ("abcdefgh", -GREAT)):
                handed = copy.deepcopy(pile)
                told = pile_put(handed, name, key)
                self.assertEqual(handed, pile)
                self.hold_pile(told, [handed])
                held = dict(pile[1])
                held[name] = (key, None, False, ())
                self.assertEqual(told, (pile[0] + [name], held))
                self.assertEqual(pile_credit(told), pile_credit(pile) + 1)

    def test_what_is_a_name(self):
        for name in NAMES:
            self.assertEqual(pile_put(no_pile(), name, 1), ([name], {name: (1, None, False, ())}))

    def test_what_is_no_name(self):
        for pile in (no_pile(), grown_pile(1)):
            for wrong in NO_NAMES:
                self.refuse(NoName, pile_put, pile, wrong, 1)

    def test_a_name_that_is_there(self):
        for pile in some_piles():
            for name in list(pile[1]):
                self.refuse(Twice, pile_put, pile, name, pile[1][name][0])
                self.refuse(Twice, pile_put, pile, name, -GREAT)

    def test_credit_of_puts(self):
        pile = no_pile()
        ledger = Ledger()
        for number in range(100):
            pile = pile_put(pile, name_of(number), number * 37 % 11)
            ledger.enter("put", 0, 1, pile_credit(pile))
            self.assertEqual(ledger.spare(), 0)
        self.assertEqual(pile[0], [name_of(number) for number in range(100)])


class Pouring(PileCase):
    def test_some_pours(self):
        one = pile_of(("b", 5, False, (("c", 6, True, ()),)))
        other = pile_of(("a", 5, False, ()), ("d", 0, False, ()))
        self.assertEqual(pour_piles(one, other), (["b", "a", "d"], {**one[1], **other[1]}))
        self.assertEqual(pour_piles(other, one), (["a", "d", "b"], {**one[1], **other[1]}))
        self.assertEqual(pour_piles(no_pile(), no_pile()), no_pile())
        self.assertEqual(pour_piles(one, no_pile()), one)
        self.assertEqual(pour_piles(no_pile(), one), one)

    def renamed(self, pile):
        def other(name):
            return None if name is None else "x" + name
        held = {other(name): (row[0], other(row[1]), row[2], tuple(other(lower) for lower in row[3]))
                for name, row in pile[1].items()}
        return ([other(name) for name in pile[0]], held)

    def test_many_pours(self):
        for one in some_piles():
            for pile in some_piles():
                other = self.renamed(pile)
                handed = copy.deepcopy((one, other))
                told = pour_piles(handed[0], handed[1])
                self.assertEqual(handed, (one, other))
                self.hold_pile(told, handed)
                self.assertEqual(told, (one[0] + other[0], {**one[1], **other[1]}))
                self.assertEqual(pile_credit(told), pile_credit(one) + pile_credit(other))

    def test_a_name_in_both(self):
        one = pile_of(("a", 1, False, (("b", 2, False, ()),)))
        for other in (pile_of(("a", 1, False, ())), pile_of(("c", 0, False, ()), ("b", 2, False, ())),
                      pile_of(("d", 0, False, (("b", 9, False, ()),))), one):
            self.refuse(Twice, pour_piles, one, copy.deepcopy(other))
            self.refuse(Twice, pour_piles, other, copy.deepcopy(one))


class Least(PileCase):
    def test_keys_alike(self):
        self.assertEqual(least_name(pile_of(("b", 5, False, ()), ("a", 5, False, ()), ("c", 5, False, ()))), "a")
        self.assertEqual(least_name(pile_of(("ab", 5, False, ()), ("a", 5, False, ()), ("b", 5, False, ()))), "a")
        self.assertEqual(least_name(pile_of(("a", 5, False, ()), ("z", 4, False, ()))), "z")
        self.assertEqual(least_name(pile_of(("a", GREAT, False, ()), ("z", -GREAT, False, ()))), "z")

    def test_many_piles(self):
        for pile in some_piles():
            if pile[1]:
                handed = copy.deepcopy(pile)
                self.assertEqual(least_name(handed), plain_least(pile))
                self.assertEqual(handed, pile)


class Keeping(PileCase):
    def test_told_piles_belong_to_the_asker(self):
        one, other = pile_of(("a", 1, False, ())), pile_of(("b", 1, False, ()))
        for deed in (lambda: pile_put(one, "c", 2), lambda: pour_piles(one, other), lambda: pour_piles(one, no_pile()),
                     lambda: pour_piles(no_pile(), one)):
            wanted = copy.deepcopy(deed())
            told = deed()
            told[0].append("spoilt")
            told[1]["spoilt"] = ()
            told[1].pop("a")
            self.assertEqual(deed(), wanted)
        self.assertEqual((one, other), (pile_of(("a", 1, False, ())), pile_of(("b", 1, False, ()))))

    def test_what_is_done_to_the_handed_piles_changes_no_answer(self):
        one, other = pile_of(("a", 1, False, ())), pile_of(("b", 1, False, ()))
        told = [pile_put(one, "c", 2), pour_piles(one, other)]
        wanted = copy.deepcopy(told)
        for pile in (one, other):
            pile[0].clear()
            pile[1].clear()
        self.assertEqual(told, wanted)
        self.assertEqual(keys_by_name(told[1]), {"a": 1, "b": 1})


if __name__ == "__main__":
    unittest.main()
