"""Point [7], and of [2] and [4] what speaks of the counter."""

import unittest

from creditworks.counters import raise_row, row_ones, row_worth
from creditworks.ledgers import Ledger


def row_of(number):
    return [int(sign) for sign in reversed(bin(number)[2:])] if number > 0 else []


def great_numbers():
    told = [10 ** 59, 10 ** 60 - 1, 10 ** 60 - 2, 123456789 ** 7]
    for exponent in range(0, 200, 7):
        told.extend([2 ** exponent - 1, 2 ** exponent, 2 ** exponent + 1])
    return told


class CounterCase(unittest.TestCase):
    def hold_raised(self, row):
        handed = list(row)
        told = raise_row(handed)
        self.assertEqual(handed, row)
        self.assertIs(type(told), tuple)
        raised, steps = told
        self.assertIs(type(raised), list)
        self.assertIs(type(steps), list)
        self.assertIsNot(raised, handed)
        number = sum(2 ** place for place, figure in enumerate(row) if figure == 1)
        self.assertEqual(raised, row_of(number + 1))
        padded = row + [0] * (len(raised) - len(row))
        self.assertEqual(steps, [place for place in range(len(raised)) if raised[place] != padded[place]])
        self.assertEqual(len(steps) + row_ones(raised), row_ones(row) + 2)
        return raised


class Raising(CounterCase):
    def test_the_first_ones(self):
        self.assertEqual(raise_row([]), ([1], [0]))
        self.assertEqual(raise_row([1]), ([0, 1], [0, 1]))
        self.assertEqual(raise_row([0, 1]), ([1, 1], [0]))
        self.assertEqual(raise_row([1, 1]), ([0, 0, 1], [0, 1, 2]))
        self.assertEqual(raise_row([1, 1, 0, 1, 1]), ([0, 0, 1, 1, 1], [0, 1, 2]))

    def test_counting_from_nought(self):
        row = []
        for number in range(3000):
            self.assertEqual(row, row_of(number))
            row = self.hold_raised(row)

    def test_rows_of_ones_alone(self):
        for length in (1, 2, 3, 64, 199, 299, 300):
            self.assertEqual(raise_row([1] * length), ([0] * length + [1], list(range(length + 1))))
            self.hold_raised([1] * length)

    def test_long_rows(self):
        for row in ([0] * 299 + [1], [1] * 150 + [0] + [1] * 149, [0, 1] * 150, [1, 1, 0] * 99 + [1] * 3,
                    [1] * 298 + [0, 1]):
            self.assertEqual(len(row), 300)
            self.hold_raised(row)
        for number in great_numbers():
            self.hold_raised(row_of(number))

    def test_told_lists_belong_to_the_asker(self):
        for row in ([], [1], [0, 1], [1, 1, 0, 1]):
            handed = list(row)
            raised, steps = raise_row(handed)
            wanted = (list(raised), list(steps))
            self.assertIsNot(raised, steps)
            raised.append(7)
            steps.clear()
            self.assertEqual(handed, row)
            self.assertEqual(raise_row(handed), wanted)

    def test_what_is_done_to_the_handed_row_changes_no_answer(self):
        handed = [1, 0, 1]
        raised, steps = raise_row(handed)
        handed.clear()
        self.assertEqual((raised, steps), ([0, 1, 1], [0, 1]))


class Asking(CounterCase):
    def test_without_places(self):
        self.assertEqual(row_worth([]), 0)
        self.assertEqual(row_ones([]), 0)

    def test_small_and_great_ones(self):
        for number in list(range(3000)) + great_numbers() + [2 ** 300 - 1, 2 ** 299]:
            row = row_of(number)
            handed = list(row)
            self.assertEqual(row_worth(handed), number)
            self.assertEqual(row_ones(handed), bin(number).count("1"))
            self.assertEqual(handed, row)

    def test_told_are_whole_numbers(self):
        for row in ([], [1], [0, 1, 1]):
            self.assertIs(type(row_worth(row)), int)
            self.assertIs(type(row_ones(row)), int)


class Spending(CounterCase):
    def test_credit_begins_with_nought_and_just_the_price_is_spent(self):
        row = []
        ledger = Ledger()
        self.assertEqual(row_ones(row), 0)
        for number in range(1, 600):
            row, steps = raise_row(row)
            ledger.enter("up", len(steps), 2, row_ones(row))
            self.assertEqual(ledger.credit(), row_ones(row))
            self.assertGreaterEqual(row_ones(row), 0)
            self.assertEqual(ledger.due(), 2 * number)
            self.assertEqual(ledger.spare(), 0)


if __name__ == "__main__":
    unittest.main()
