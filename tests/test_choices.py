"""Promises [5] and [6]: choices and tops."""

import math
import unittest
from itertools import combinations

from bellwrite.choices import choose, top_of

SIXTY_FIGURES = 10 ** 60 - 1


class Choices(unittest.TestCase):
    def test_counts_the_sets(self):
        for n in range(9):
            for k in range(11):
                with self.subTest(n=n, k=k):
                    self.assertEqual(choose(n, k), len(list(combinations(range(n), k))))

    def test_each_is_the_sum_of_two_of_one_less(self):
        line = [1] + [0] * 61
        for n in range(90):
            self.assertEqual([choose(n, k) for k in range(62)], line, n)
            line = [1] + [line[k - 1] + line[k] for k in range(1, 62)]

    def test_k_of_nought_one_and_n(self):
        for n in (0, 1, 2, 7, 60, 61, 62, 10 ** 20, SIXTY_FIGURES):
            self.assertEqual(choose(n, 0), 1)
            self.assertEqual(choose(n, 1), n)
        for n in range(62):
            self.assertEqual(choose(n, n), 1)

    def test_k_above_n(self):
        for n in range(61):
            for k in range(n + 1, 62):
                self.assertEqual(choose(n, k), 0)

    def test_k_of_sixty_one(self):
        self.assertEqual(choose(0, 61), 0)
        self.assertEqual(choose(60, 61), 0)
        self.assertEqual(choose(61, 61), 1)
        self.assertEqual(choose(62, 61), 62)
        self.assertEqual(choose(63, 61), 1953)

    def test_numbers_of_sixty_figures(self):
        for n in (10 ** 59, 10 ** 59 + 7, SIXTY_FIGURES - 1, SIXTY_FIGURES):
            for k in range(62):
                self.assertEqual(choose(n, k), math.comb(n, k))

    def test_tells_whole_numbers(self):
        for n, k in ((0, 0), (0, 1), (5, 0), (5, 5), (5, 6), (5, 2)):
            self.assertIs(type(choose(n, k)), int)


class Tops(unittest.TestCase):
    def assert_top(self, k, number):
        top = top_of(k, number)
        self.assertIs(type(top), int)
        # Not assertLessEqual: its words would hold thousands of figures.
        self.assertTrue(math.comb(top, k) <= number < math.comb(top + 1, k), k)

    def test_small_ones_by_walking_up(self):
        for k in range(1, 13):
            n = 0
            for number in range(400):
                while math.comb(n + 1, k) <= number:
                    n += 1
                self.assertEqual(top_of(k, number), n, (k, number))

    def test_of_nought_and_one(self):
        for k in range(1, 61):
            self.assertEqual(top_of(k, 0), k - 1)
            self.assertEqual(top_of(k, 1), max(k, 1))

    def test_for_one_is_the_number(self):
        for number in (0, 1, 2, 3, 4, 63, 64, 65, SIXTY_FIGURES, 10 ** 3999 + 1, 10 ** 4000 - 1):
            self.assertTrue(top_of(1, number) == number)

    def assert_edges(self, n, k):
        ways = math.comb(n, k)
        self.assertTrue(top_of(k, ways) == n, (k, "at"))
        self.assertTrue(top_of(k, ways - 1) == n - 1, (k, "below"))
        self.assertTrue(top_of(k, ways + 1) == (n + 1 if k == 1 else n), (k, "above"))

    def test_at_the_choices_and_beside_them(self):
        for k in range(1, 61):
            for n in list(range(k, k + 20)) + [127, 128, 129, 1000, 10 ** 6 + 3, 2 ** 61, SIXTY_FIGURES]:
                self.assert_edges(n, k)

    def test_at_choices_of_some_thousand_figures_and_beside_them(self):
        for k in range(1, 61):
            n = 10 ** (3900 // k) + 12345
            self.assert_edges(n, k)

    def test_of_some_thousand_figures(self):
        numbers = (10 ** 999, 2 ** 4096 - 1, 2 ** 4096, 10 ** 2500 + 1, 3 ** 6000, 7 ** 4700, 10 ** 4000 - 1)
        for k in range(1, 61):
            for number in numbers:
                self.assert_top(k, number)

    def test_of_up_to_sixty_figures(self):
        for k in range(1, 61):
            for figures in range(1, 61):
                self.assert_top(k, 10 ** figures - 1)
                self.assert_top(k, 10 ** figures // 7)


if __name__ == "__main__":
    unittest.main()
