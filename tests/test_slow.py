"""Point [12]."""

import unittest

from creditworks.slow import reach_up, slow_number

BEYOND = 10 ** 9


# A(k, j) by the forms that the rule comes to; BEYOND stands for all that is above it.
def plain_a(k, j):
    if k == 0:
        return j + 1
    if k == 1:
        return 2 * j + 1
    if k == 2:
        return min(2 ** (j + 1) * (j + 1) - 1, BEYOND)
    if j == 0:
        return 1
    return 2047 if (k, j) == (3, 1) else BEYOND


# A(k, j) word for word as it is told, for what is small.
def told_a(k, j):
    if k == 0:
        return j + 1
    reached = j
    for turn in range(j + 1):
        reached = told_a(k - 1, reached)
    return reached


class Reaching(unittest.TestCase):
    def test_the_plain_forms_are_what_is_told(self):
        for k, last in ((0, 50), (1, 50), (2, 6), (3, 1), (4, 0), (9, 0)):
            for j in range(last + 1):
                self.assertEqual(plain_a(k, j), told_a(k, j), (k, j))

    def test_the_told_ones(self):
        self.assertEqual([reach_up(0, j, 4000) for j in range(5)], [1, 2, 3, 4, 5])
        self.assertEqual([reach_up(1, j, 4000) for j in range(5)], [1, 3, 5, 7, 9])
        self.assertEqual(reach_up(2, 1, 4000), 7)
        self.assertEqual(reach_up(3, 1, 4000), 2047)
        self.assertEqual(reach_up(4, 1, 4000), 4000)
        self.assertEqual([reach_up(k, 0, 4000) for k in range(10)], [1] * 10)

    def test_a_most_that_is_less_just_it_and_more(self):
        for k, j in ((0, 0), (0, 1), (0, 17), (1, 0), (1, 1), (1, 100), (2, 0), (2, 1), (2, 2), (2, 5), (3, 0), (3, 1),
                     (9, 0)):
            reached = plain_a(k, j)
            for most in (1, reached - 1, reached, reached + 1, 2 * reached, 4000):
                if most >= 1:
                    self.assertEqual(reach_up(k, j, most), min(reached, most), (k, j, most))

    def test_a_grid(self):
        steps = list(range(12)) + [31, 32, 63, 64, 255, 256, 1023, 1999, 2000, 2046, 2047, 2048, 3999, 4000]
        for k in range(10):
            for j in steps:
                for most in (1, 2, 3, 7, 8, 22, 23, 24, 100, 2046, 2047, 2048, 3999, 4000):
                    told = reach_up(k, j, most)
                    self.assertEqual(told, min(plain_a(k, j), most), (k, j, most))
                    self.assertIs(type(told), int)


class Slow(unittest.TestCase):
    def test_the_told_ones(self):
        self.assertEqual([slow_number(n) for n in (1, 2, 3, 4, 7, 8, 2047, 2048, 4000)], [0, 0, 1, 2, 2, 3, 3, 4, 4])

    def test_each_is_the_least(self):
        for n in list(range(1, 300)) + list(range(2000, 2100)) + [3000, 3999, 4000]:
            told = slow_number(n)
            self.assertEqual(told, min(k for k in range(10) if plain_a(k, 1) >= n), n)
            self.assertIs(type(told), int)


if __name__ == "__main__":
    unittest.main()
