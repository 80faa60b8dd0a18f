"""Point [5]: the bits of a whole number."""

import unittest

from creditworks.binary import bits_of, is_count
from tests.samples import COUNTS, NO_COUNTS


def figures_by_halving(number):
    many = 0
    while number > 0:
        number //= 2
        many += 1
    return many


class Bits(unittest.TestCase):
    def test_the_told_ones(self):
        self.assertEqual([bits_of(number) for number in (0, 1, 2, 3, 4)], [0, 1, 2, 2, 3])

    def test_all_small_ones(self):
        for number in range(5000):
            self.assertEqual(bits_of(number), figures_by_halving(number), number)

    def test_about_the_powers_of_two_up_to_sixty_figures(self):
        for exponent in range(1, 200):
            power = 2 ** exponent
            self.assertEqual(bits_of(power - 1), exponent)
            self.assertEqual(bits_of(power), exponent + 1)
            self.assertEqual(bits_of(power + 1), exponent + 1)

    def test_about_the_powers_of_ten(self):
        for exponent in range(61):
            for number in (10 ** exponent - 1, 10 ** exponent, 10 ** exponent + 1):
                self.assertEqual(bits_of(number), figures_by_halving(number), number)

    def test_told_is_a_whole_number(self):
        for number in (0, 1, 2, 10 ** 59):
            self.assertIs(type(bits_of(number)), int)


class WholeNumbersFromNought(unittest.TestCase):
    def test_what_is_one(self):
        for value in COUNTS:
            self.assertIs(is_count(value), True, value)

    def test_what_is_none(self):
        for value in NO_COUNTS + (None,):
            self.assertIs(is_count(value), False, value)


if __name__ == "__main__":
    unittest.main()
