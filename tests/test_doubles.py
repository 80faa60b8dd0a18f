"""Point [10], and of [2], [3] and [4] what speaks of doubles."""

import copy
import itertools
import unittest

from creditworks.doubles import double_credit, double_row, put_first, put_last, take_first, take_last
from creditworks.errors import CreditError, Empty
from creditworks.ledgers import Ledger
from tests.samples import THINGS, spoil


def some_doubles():
    told = [(list(range(left)), list(range(50, 50 + right))) for left in range(8) for right in range(8)]
    for many in (16, 17, 60, 61, 299, 300):
        told.extend([(list(range(many)), []), ([], list(range(many)))])
    return told + [(list(THINGS), []), ([], list(THINGS))]


def row_of(double):
    return double[0][::-1] + double[1]


# The two piles that keep a row of which the first many lie left.
def parted(row, many):
    return (row[:many][::-1], row[many:])


class DoubleCase(unittest.TestCase):
    def hold_double(self, double, handed):
        self.assertIs(type(double), tuple)
        self.assertEqual([type(pile) for pile in double], [list, list])
        self.assertIsNot(double[0], double[1])
        for pile in double:
            for other in handed:
                self.assertIsNot(pile, other)

    def hold_put(self, double, thing, deed, wanted):
        handed = copy.deepcopy(double)
        told = deed(handed, thing)
        self.assertEqual(handed, double)
        self.assertIs(type(told), tuple)
        put, steps = told
        self.hold_double(put, handed)
        self.assertEqual((put, steps), (wanted, ["laid"]))
        self.assertEqual(double_row(put), row_of(wanted))
        self.assertLessEqual(len(steps) + double_credit(put), double_credit(double) + 2)
        return put

    def hold_taken(self, double, deed):
        handed = copy.deepcopy(double)
        told = deed(handed)
        self.assertEqual(handed, double)
        self.assertIs(type(told), tuple)
        thing, left, steps = told
        self.hold_double(left, handed)
        self.assertEqual((thing, left, steps), self.wanted(double, deed))
        self.assertLessEqual(len(steps) + double_credit(left), double_credit(double) + 2)
        return left

    def wanted(self, double, deed):
        row = row_of(double)
        end = 0 if deed is take_first else 1
        laid = double
        steps = []
        if double[end] == []:
            half = (len(row) + 1) // 2
            laid = parted(row, half if end == 0 else len(row) - half)
            steps = ["moved"] * len(row)
        self.assertEqual(row_of(laid), row)
        piles = [list(laid[0]), list(laid[1])]
        thing = piles[end].pop()
        return (thing, tuple(piles), steps + ["taken"])

    def refuse(self, double):
        for deed in (take_first, take_last):
            handed = copy.deepcopy(double)
            with self.assertRaises(CreditError) as told:
                deed(handed)
            self.assertIs(type(told.exception), Empty)
            self.assertEqual(handed, double)


class Deeds(DoubleCase):
    def test_puts(self):
        self.assertEqual(put_first(([], []), 5), (([5], []), ["laid"]))
        self.assertEqual(put_last(([], []), 5), (([], [5]), ["laid"]))
        self.assertEqual(put_first(([1, 2], [3, 4]), 5), (([1, 2, 5], [3, 4]), ["laid"]))
        self.assertEqual(put_last(([1, 2], [3, 4]), 5), (([1, 2], [3, 4, 5]), ["laid"]))

    def test_takings_from_a_pile_with_things(self):
        self.assertEqual(take_first(([1, 2], [3, 4])), (2, ([1], [3, 4]), ["taken"]))
        self.assertEqual(take_last(([1, 2], [3, 4])), (4, ([1, 2], [3]), ["taken"]))
        self.assertEqual(take_first(([1], [])), (1, ([], []), ["taken"]))
        self.assertEqual(take_last(([], [1])), (1, ([], []), ["taken"]))

    def test_one_thing_alone_on_the_other_side(self):
        self.assertEqual(take_first(([], [7])), (7, ([], []), ["moved", "taken"]))
        self.assertEqual(take_last(([7], [])), (7, ([], []), ["moved", "taken"]))

    def test_an_even_number_on_the_other_side(self):
        self.assertEqual(take_first(([], [1, 2])), (1, ([], [2]), ["moved"] * 2 + ["taken"]))
        self.assertEqual(take_first(([], [1, 2, 3, 4])), (1, ([2], [3, 4]), ["moved"] * 4 + ["taken"]))
        self.assertEqual(take_last(([2, 1], [])), (2, ([1], []), ["moved"] * 2 + ["taken"]))
        self.assertEqual(take_last(([4, 3, 2, 1], [])), (4, ([2, 1], [3]), ["moved"] * 4 + ["taken"]))

    def test_an_odd_number_on_the_other_side(self):
        self.assertEqual(take_first(([], [1, 2, 3])), (1, ([2], [3]), ["moved"] * 3 + ["taken"]))
        self.assertEqual(take_first(([], [1, 2, 3, 4, 5])), (1, ([3, 2], [4, 5]), ["moved"] * 5 + ["taken"]))
        self.assertEqual(take_last(([3, 2, 1], [])), (3, ([1], [2]), ["moved"] * 3 + ["taken"]))
        self.assertEqual(take_last(([5, 4, 3, 2, 1], [])), (5, ([2, 1], [3, 4]), ["moved"] * 5 + ["taken"]))

    def test_many_doubles(self):
        for double in some_doubles():
            for thing in THINGS[:4]:
                self.hold_put(double, thing, put_first, (double[0] + [thing], double[1]))
                self.hold_put(double, thing, put_last, (double[0], double[1] + [thing]))
            if double != ([], []):
                self.hold_taken(double, take_first)
                self.hold_taken(double, take_last)

    def test_taking_of_none_is_refused(self):
        self.refuse(([], []))
        self.refuse(take_last(put_first(([], []), 1)[0])[1])
        self.refuse(take_first(put_last(([], []), 1)[0])[1])

    def test_things_are_told_as_they_were_handed_in(self):
        for put, take in itertools.product((put_first, put_last), (take_first, take_last)):
            double = ([], [])
            for thing in THINGS:
                double = put(double, thing)[0]
            row = list(THINGS) if put is put_last else list(reversed(THINGS))
            for thing in row if take is take_first else reversed(row):
                told, double, steps = take(double)
                self.assertIs(told, thing)


class Asking(DoubleCase):
    def test_row_and_credit(self):
        self.assertEqual(double_row(([1, 2], [3, 4])), [2, 1, 3, 4])
        self.assertEqual(double_row(([], [])), [])
        self.assertEqual(double_credit(([], [])), 0)
        for double in some_doubles():
            handed = copy.deepcopy(double)
            self.assertEqual(double_row(handed), row_of(double))
            many = sorted([len(double[0]), len(double[1])])
            self.assertEqual(double_credit(handed), many[1] - many[0])
            self.assertIs(type(double_credit(handed)), int)
            self.assertEqual(handed, double)


class Keeping(DoubleCase):
    def deeds(self):
        return (lambda handed: put_first(handed, 9), lambda handed: put_last(handed, 9), take_first, take_last,
                lambda handed: (double_row(handed),))

    def test_told_lists_belong_to_the_asker(self):
        for double in (([1, 2], [3, 4]), ([], [3, 4, 5]), ([1, 2], []), ([6], [])):
            for deed in self.deeds():
                handed = copy.deepcopy(double)
                wanted = copy.deepcopy(deed(handed))
                spoil(deed(handed))
                self.assertEqual(handed, double)
                self.assertEqual(deed(handed), wanted)

    def test_what_is_done_to_the_handed_double_changes_no_answer(self):
        for double in (([1, 2], [3, 4]), ([], [3, 4, 5]), ([1, 2], []), ([6], [])):
            for deed in self.deeds():
                handed = copy.deepcopy(double)
                told = deed(handed)
                wanted = copy.deepcopy(told)
                handed[0].append("spoilt")
                handed[1].clear()
                self.assertEqual(told, wanted)

    def test_elder_doubles_keep_their_rows(self):
        elder = [([], [])]
        wanted = [[]]
        for turn in range(80):
            double = elder[-1]
            row = wanted[-1]
            if turn % 7 in (0, 1, 2):
                elder.append(put_first(double, turn)[0])
                wanted.append([turn] + row)
            elif turn % 7 in (3, 4):
                elder.append(put_last(double, turn)[0])
                wanted.append(row + [turn])
            elif turn % 7 == 5:
                elder.append(take_last(double)[1])
                wanted.append(row[:-1])
            else:
                elder.append(take_first(double)[1])
                wanted.append(row[1:])
        self.assertEqual([double_row(double) for double in elder], wanted)


class AgainstAPlainRow(DoubleCase):
    def run_deeds(self, deeds):
        double = ([], [])
        plain = []
        ledger = Ledger()
        self.assertEqual(double_credit(double), 0)
        for place, deed in enumerate(deeds):
            if deed in "fl":
                plain.insert(0 if deed == "f" else len(plain), place)
                double, steps = (put_first if deed == "f" else put_last)(double, place)
            elif plain == []:
                self.refuse(double)
                continue
            else:
                thing, double, steps = (take_first if deed == "s" else take_last)(double)
                self.assertEqual(thing, plain.pop(0 if deed == "s" else -1))
            ledger.enter(deed, len(steps), 2, double_credit(double))
            self.assertEqual(double_row(double), plain)
        self.assertGreaterEqual(ledger.spare(), 0)

    def test_all_short_rows_of_deeds(self):
        for deeds in itertools.product("flsp", repeat=6):
            self.run_deeds(deeds)

    def test_long_rows_of_deeds(self):
        for puts, takes in itertools.product(("f", "l", "fl"), ("s", "p", "sp", "spp")):
            self.run_deeds(puts * 150 + takes * 160)
            self.run_deeds((puts * 7 + takes * 5) * 20 + takes * 90)


if __name__ == "__main__":
    unittest.main()
