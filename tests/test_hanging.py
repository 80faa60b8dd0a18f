"""Point [26], and of [2] and [4] what speaks of the least taken out."""

import copy
import unittest

from creditworks.errors import CreditError, Empty
from creditworks.hanging import take_least
from creditworks.ledgers import Ledger
from creditworks.piles import most_below, no_pile, pile_credit, pile_put
from tests.piling import (coming_to, f, grown_pile, keys_by_name, least_pile, name_of, pile_of, plain_form, plain_least,
                          some_piles)


# Steps of free and hang, done one by one on a pile from which a top has gone; each must be one that is told.
def replay(case, tops, held, freed, steps):
    for place, name in enumerate(freed):
        case.assertEqual(steps[place], ("free", name))
        held[name] = (held[name][0], None, False, held[name][3])
        tops.append(name)
    for step in steps[len(freed):]:
        case.assertEqual((type(step), len(step), step[0]), (tuple, 3, "hang"))
        name, on = step[1:]
        case.assertIn(name, tops)
        case.assertIn(on, tops)
        case.assertEqual(len(held[name][3]), len(held[on][3]))
        case.assertGreater((held[name][0], name), (held[on][0], on))
        tops.remove(name)
        held[name] = (held[name][0], on, False, held[name][3])
        held[on] = held[on][:3] + (held[on][3] + (name,),)
    manys = [len(held[name][3]) for name in tops]
    case.assertEqual(len(manys), len(set(manys)))
    return (tops, held)


class LeastCase(unittest.TestCase):
    def hold_taken(self, pile):
        handed = copy.deepcopy(pile)
        told = take_least(handed)
        self.assertEqual(handed, pile)
        self.assertEqual((type(told), len(told)), (tuple, 4))
        name, key, left, steps = told
        self.assertEqual(name, plain_least(pile))
        self.assertEqual(key, pile[1][name][0])
        self.assertEqual((type(left), type(left[0]), type(left[1]), type(steps)), (tuple, list, dict, list))
        self.assertIsNot(left[0], handed[0])
        self.assertIsNot(left[1], handed[1])
        tops, held = copy.deepcopy(pile)
        tops.remove(name)
        freed = held.pop(name)[3]
        self.assertEqual(left, replay(self, tops, held, freed, steps))
        self.assertTrue(plain_form(left))
        price = 2 * most_below(len(pile[1]))
        self.assertLessEqual(len(steps) + pile_credit(left), pile_credit(pile) + price)
        return left


class Taking(LeastCase):
    def test_of_no_name(self):
        pile = no_pile()
        with self.assertRaises(CreditError) as told:
            take_least(pile)
        self.assertIs(type(told.exception), Empty)
        self.assertEqual(pile, no_pile())

    def test_of_one_name(self):
        self.assertEqual(take_least(pile_of(("a", 5, False, ()))), ("a", 5, no_pile(), []))

    def test_of_names_with_keys_alike(self):
        pile = pile_of(("c", 5, False, ()), ("b", 5, False, ()), ("a", 5, False, ()))
        wanted = pile_of(("b", 5, False, (("c", 5, False, ()),)))
        self.assertEqual(take_least(pile), ("a", 5, wanted, [("hang", "c", "b")]))
        self.assertEqual(take_least(wanted), ("b", 5, pile_of(("c", 5, False, ())), [("free", "c")]))

    def test_a_mark_goes_with_the_freeing(self):
        pile = pile_of(("a", 1, False, (("b", 2, True, (("c", 3, False, ()),)), ("d", 4, True, ()))))
        told = take_least(pile)
        self.assertEqual(told[:2], ("a", 1))
        self.assertEqual(told[2], pile_of(("b", 2, False, (("c", 3, False, ()),)), ("d", 4, False, ())))
        self.assertEqual(told[3], [("free", "b"), ("free", "d")])

    def test_other_tops_stay_in_their_order(self):
        pile = pile_of(("x", 9, False, (("y", 9, False, ()),)), ("a", 1, False, ()), ("b", 2, False, ()))
        self.assertEqual(take_least(pile), ("a", 1, (["x", "b"], {name: pile[1][name] for name in "xyb"}), []))

    def test_a_name_with_many_below_it(self):
        for many in range(1, 9):
            pile = least_pile(many)
            self.assertEqual(len(pile[1]), f(many + 2))
            below = pile[1]["a"][3]
            told = take_least(pile)
            self.assertEqual(told[3][:many], [("free", name) for name in below])
            self.hold_taken(pile)

    def test_many_tops_alike(self):
        for many in (2, 3, 4, 5, 16, 17, 33, 64, 65, 100):
            pile = no_pile()
            for number in range(many):
                pile = pile_put(pile, name_of(number), number * 7 % 13)
            left = self.hold_taken(pile)
            counts = sorted(len(coming_to(left[1], name)) for name in left[0])
            self.assertEqual(counts, [2 ** bit for bit in range(8) if (many - 1) >> bit & 1])

    def test_many_piles(self):
        for pile in some_piles() + [grown_pile(seed, (4, 2, 3, 3, 0), 3, 0.1) for seed in range(20)]:
            while pile[1]:
                pile = self.hold_taken(pile)


class Keeping(LeastCase):
    def test_told_piles_belong_to_the_asker(self):
        pile = grown_pile(2)
        kept = copy.deepcopy(pile)
        wanted = copy.deepcopy(take_least(pile))
        told = take_least(pile)
        told[2][0].append("spoilt")
        told[2][1].clear()
        told[3].clear()
        self.assertEqual(pile, kept)
        self.assertEqual(take_least(pile), wanted)
        told = take_least(pile)
        pile[0].clear()
        pile[1].clear()
        self.assertEqual(told, wanted)

    def test_elder_piles_keep_their_names(self):
        elder = [grown_pile(4)]
        wanted = [keys_by_name(elder[0])]
        while elder[-1][1]:
            name, key, left, steps = take_least(elder[-1])
            elder.append(left)
            wanted.append({other: row for other, row in wanted[-1].items() if other != name})
        self.assertEqual([keys_by_name(pile) for pile in elder], wanted)


class Paying(LeastCase):
    def test_a_hundred_put_and_drawn(self):
        pile = no_pile()
        ledger = Ledger()
        plain = []
        for number in range(100):
            key = number * 37 % 101 - 50
            pile = pile_put(pile, name_of(number), key)
            plain.append((key, name_of(number)))
            ledger.enter("put", 0, 1, pile_credit(pile))
        for wanted in sorted(plain):
            price = 2 * most_below(len(pile[1]))
            name, key, pile, steps = take_least(pile)
            self.assertEqual((key, name), wanted)
            ledger.enter("draw", len(steps), price, pile_credit(pile))
        self.assertEqual((pile, ledger.credit()), (no_pile(), 0))
        self.assertGreaterEqual(ledger.spare(), 0)


if __name__ == "__main__":
    unittest.main()
