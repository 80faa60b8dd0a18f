"""Point [8], and of [2] and [4] what speaks of figures."""

import itertools
import unittest

from creditworks.figures import figures_credit, figures_down, figures_up, figures_worth
from creditworks.ledgers import Ledger

GREAT = 10 ** 60 - 1


def all_rows(length):
    return [list(row) for row in itertools.product((-1, 0, 1), repeat=length) if row == () or row[-1] != 0]


def rows_of_great_numbers():
    told = []
    for number in (GREAT, GREAT - 1, 10 ** 59, 123456789 ** 7, 2 ** 198):
        bits = [int(sign) for sign in reversed(bin(number)[2:])]
        told.extend([bits, [-bit for bit in bits]])
    return told


def long_rows():
    return [[0] * 299 + [1], [0] * 299 + [-1], [1] * 150 + [-1] * 150, [-1] * 150 + [1] * 150, [1, -1] * 150,
            [1] * 299 + [-1], [-1] * 299 + [1], [1, 0, -1] * 100, [1] * 298 + [0, -1], [-1] * 298 + [0, 1]]


class FiguresCase(unittest.TestCase):
    def worth(self, row):
        return sum(figure * 2 ** place for place, figure in enumerate(row))

    def hold_form(self, row):
        self.assertIs(type(row), list)
        self.assertTrue(all(type(figure) is int and -1 <= figure <= 1 for figure in row))
        self.assertTrue(row == [] or row[-1] != 0, row)

    # The rule told by the place where the carrying ends, found first and then written at once.
    def wanted(self, row, by):
        place = 0
        while place < len(row) and row[place] == by:
            place += 1
        ahead = row[place] if place < len(row) else 0
        told = [0] * place + [ahead + by] + row[place + 1:]
        return ([] if not any(told) else told, list(range(place + 1)))

    def hold_moved(self, row, by):
        handed = list(row)
        told = (figures_up if by == 1 else figures_down)(handed)
        self.assertEqual(handed, row)
        self.assertIs(type(told), tuple)
        moved, steps = told
        self.assertIs(type(steps), list)
        self.assertIsNot(moved, handed)
        self.hold_form(moved)
        self.assertEqual(told, self.wanted(row, by), row)
        self.assertEqual(self.worth(moved), self.worth(row) + by)
        self.assertLessEqual(len(steps) + figures_credit(moved), figures_credit(row) + 2)
        return moved


class Moving(FiguresCase):
    def test_no_figures(self):
        self.assertEqual(figures_up([]), ([1], [0]))
        self.assertEqual(figures_down([]), ([-1], [0]))

    def test_some_rows_step_by_step(self):
        self.assertEqual(figures_up([1]), ([0, 1], [0, 1]))
        self.assertEqual(figures_up([-1]), ([], [0]))
        self.assertEqual(figures_up([0, 1]), ([1, 1], [0]))
        self.assertEqual(figures_up([0, -1]), ([1, -1], [0]))
        self.assertEqual(figures_up([-1, 1]), ([0, 1], [0]))
        self.assertEqual(figures_up([1, -1, 1]), ([0, 0, 1], [0, 1]))
        self.assertEqual(figures_up([1, 1, 0, -1]), ([0, 0, 1, -1], [0, 1, 2]))
        self.assertEqual(figures_down([-1]), ([0, -1], [0, 1]))
        self.assertEqual(figures_down([1]), ([], [0]))
        self.assertEqual(figures_down([0, 1]), ([-1, 1], [0]))
        self.assertEqual(figures_down([1, 1]), ([0, 1], [0]))
        self.assertEqual(figures_down([-1, 1, -1]), ([0, 0, -1], [0, 1]))
        self.assertEqual(figures_down([-1, -1, 0, 1]), ([0, 0, -1, 1], [0, 1, 2]))

    def test_ones_alone_and_minus_ones_alone(self):
        for length in (1, 2, 3, 64, 199, 299, 300):
            places = list(range(length + 1))
            self.assertEqual(figures_up([1] * length), ([0] * length + [1], places))
            self.assertEqual(figures_down([-1] * length), ([0] * length + [-1], places))
            rest = [1] * (length - 1)
            self.assertEqual(figures_down([1] * length), ([0] + rest if rest else [], [0]))
            rest = [-1] * (length - 1)
            self.assertEqual(figures_up([-1] * length), ([0] + rest if rest else [], [0]))

    def test_figures_that_all_become_nought(self):
        for ones in (0, 1, 2, 3, 63, 198, 299):
            self.assertEqual(figures_up([1] * ones + [-1]), ([], list(range(ones + 1))))
            self.assertEqual(figures_down([-1] * ones + [1]), ([], list(range(ones + 1))))

    def test_all_short_rows(self):
        for length in range(8):
            for row in all_rows(length):
                self.hold_moved(row, 1)
                self.hold_moved(row, -1)

    def test_long_rows(self):
        for row in long_rows() + rows_of_great_numbers():
            self.hold_moved(row, 1)
            self.hold_moved(row, -1)

    def test_long_ways_up_and_down(self):
        row = []
        number = 0
        for length, by in ((70, 1), (200, -1), (260, 1), (1, -1), (2, 1), (300, -1)):
            for turn in range(length):
                row = self.hold_moved(row, by)
                number += by
                self.assertEqual(figures_worth(row), number)

    def test_to_and_fro_about_a_power_of_two(self):
        for start in ([0] * 60 + [1], [1] * 60, [-1] * 60, [1] * 59 + [-1]):
            row = start
            for by in (1, -1) * 5 + (-1, 1) * 5 + (1, 1, -1, -1, -1, 1):
                row = self.hold_moved(row, by)

    def test_told_lists_belong_to_the_asker(self):
        for row in ([], [1], [-1], [1, -1], [0, 1], [1, 1, 0, -1]):
            for deed in (figures_up, figures_down):
                handed = list(row)
                moved, steps = deed(handed)
                wanted = (list(moved), list(steps))
                moved.append(7)
                steps.clear()
                self.assertEqual(handed, row)
                self.assertEqual(deed(handed), wanted)

    def test_what_is_done_to_the_handed_row_changes_no_answer(self):
        for deed, wanted in ((figures_up, ([0, 1, 1], [0, 1])), (figures_down, ([0, 0, 1], [0]))):
            handed = [1, 0, 1]
            told = deed(handed)
            handed.clear()
            self.assertEqual(told, wanted)


class Asking(FiguresCase):
    def test_without_figures(self):
        self.assertEqual(figures_worth([]), 0)
        self.assertEqual(figures_credit([]), 0)

    def test_worth_and_credit(self):
        rows = [row for length in range(8) for row in all_rows(length)]
        for row in rows + long_rows() + rows_of_great_numbers():
            handed = list(row)
            worth = figures_worth(handed)
            credit = figures_credit(handed)
            self.assertEqual(worth, self.worth(row))
            self.assertEqual(credit, sum(1 for figure in row if figure != 0))
            self.assertIs(type(worth), int)
            self.assertIs(type(credit), int)
            self.assertEqual(handed, row)

    def test_several_rows_keep_one_number(self):
        self.assertEqual([figures_worth(row) for row in ([1], [-1, 1], [-1, -1, 1])], [1, 1, 1])
        noughts = [row for length in range(8) for row in all_rows(length) if figures_worth(row) == 0]
        self.assertEqual(noughts, [[]])

    def test_the_last_figure_tells_the_side(self):
        for length in range(1, 8):
            for row in all_rows(length):
                self.assertEqual(row[-1] == 1, figures_worth(row) > 0)
                self.assertEqual(row[-1] == -1, figures_worth(row) < 0)


class Paying(FiguresCase):
    def test_prices_pay_any_row_of_deeds(self):
        for row in itertools.product((1, -1), repeat=9):
            self.hold_paid(row)
        self.hold_paid((1,) * 300 + (-1,) * 700 + (1, -1) * 50 + (1,) * 500)

    def hold_paid(self, deeds):
        row = []
        ledger = Ledger()
        self.assertEqual(figures_credit(row), 0)
        for by in deeds:
            row, steps = (figures_up if by == 1 else figures_down)(row)
            self.assertGreaterEqual(figures_credit(row), 0)
            ledger.enter("by", len(steps), 2, figures_credit(row))
        self.assertEqual(ledger.due(), 2 * len(deeds))
        self.assertGreaterEqual(ledger.spare(), 0)


if __name__ == "__main__":
    unittest.main()
