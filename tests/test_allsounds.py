"""[50] to [55]: how many rows have each size, rows by their numbers, means and gaps."""

import itertools
import time
import unittest
from fractions import Fraction

from wholesound.allsounds import fair, gap, how_many, least_means, mean, number_of, row_at, size_bounds
from wholesound.errors import InvalidNumber
from wholesound.guessers import Guesser, rests, steps

from tests.drawn import Drawn

GUESSERS = [steps(0), steps(1), steps(2), Guesser([3, -1], 1), Guesser([0, 0, 5], 2), Guesser([-7], 0)]


def folded(number):
    return 2 * number if number >= 0 else -2 * number - 1


def price_of(fold, width):
    return fold // 2 ** width + 1 + width


def folds_of(guesser, depth, row):
    return [folded(rest) for rest in rests(guesser, depth, row)]


def all_rows(depth, many):
    samples = range(-2 ** (depth - 1), 2 ** (depth - 1))
    return [list(row) for row in itertools.product(samples, repeat=many)]


class Sizes(unittest.TestCase):

    def test_over_all_rows(self):
        for depth, most in ((1, 7), (2, 5), (3, 3), (4, 2), (6, 1)):
            for many in range(most + 1):
                rows = all_rows(depth, many)
                for width in range(depth + 1):
                    for guesser in GUESSERS[many % 3::3]:
                        sizes = [sum(price_of(fold, width) for fold in folds_of(guesser, depth, row)) for row in rows]
                        self.assertEqual(size_bounds(depth, width, many), (min(sizes), max(sizes)))
                        for size in range(max(sizes) + 3):
                            self.assertEqual(how_many(depth, width, many, size), sizes.count(size))

    def test_edges(self):
        self.assertEqual([how_many(5, 2, 0, size) for size in (0, 1, 10 ** 29)], [1, 0, 0])
        self.assertEqual(size_bounds(5, 2, 0), (0, 0))
        self.assertEqual([how_many(5, 5, 1, size) for size in (5, 6, 7)], [0, 32, 0])
        self.assertEqual(size_bounds(24, 24, 200), (5000, 5000))
        self.assertEqual(how_many(24, 24, 200, 5000), 2 ** 4800)

    def test_all_sizes_add_up_to_all_rows(self):
        for depth, width, many in ((1, 0, 200), (4, 1, 30), (7, 3, 12), (8, 8, 5)):
            least, greatest = size_bounds(depth, width, many)
            counts = [how_many(depth, width, many, size) for size in range(greatest + 2)]
            self.assertEqual(sum(counts), 2 ** (depth * many))
            self.assertEqual([counts[least] > 0, counts[greatest] > 0, sum(counts[:least]), counts[greatest + 1]],
                             [True, True, 0, 0])


class Numbers(unittest.TestCase):

    def test_over_all_rows(self):
        for depth, most in ((1, 5), (2, 4), (3, 3), (4, 2)):
            for many in range(most + 1):
                for width in range(depth + 1):
                    for guesser in GUESSERS[(many + width) % 2::2]:
                        self.check_order(guesser, depth, width, many)

    def check_order(self, guesser, depth, width, many):
        rows = {}
        for row in sorted(all_rows(depth, many), key=lambda one: folds_of(guesser, depth, one)):
            size = sum(price_of(fold, width) for fold in folds_of(guesser, depth, row))
            rows.setdefault(size, []).append(row)
        for size, ordered in rows.items():
            for number, row in enumerate(ordered):
                self.assertEqual(number_of(guesser, depth, width, row), (size, number))
                self.assertEqual(row_at(guesser, depth, width, many, size, number), row)
            for number in (len(ordered), len(ordered) + 1):
                with self.assertRaises(InvalidNumber) as caught:
                    row_at(guesser, depth, width, many, size, number)
                self.assertEqual(caught.exception.value, number)

    def test_sizes_that_no_row_has(self):
        for size in (0, 3, 13, 10 ** 29):
            with self.assertRaises(InvalidNumber) as caught:
                row_at(steps(1), 3, 1, 2, size, 0)
            self.assertEqual(caught.exception.value, 0)
        self.assertEqual(row_at(steps(2), 3, 1, 0, 0, 0), [])
        self.assertEqual(number_of(steps(2), 3, 1, []), (0, 0))

    def test_first_and_last_numbers_of_great_rows(self):
        drawn = Drawn(520)
        for _ in range(25):
            depth = drawn.between(1, 24)
            width, many = drawn.between(max(0, depth - 6), depth), drawn.between(1, 40)
            guesser = drawn.item(GUESSERS)
            least, greatest = size_bounds(depth, width, many)
            size = drawn.between(least, greatest)
            last = how_many(depth, width, many, size) - 1
            for number in (0, last, drawn.below(last + 1)):
                row = row_at(guesser, depth, width, many, size, number)
                self.assertEqual(number_of(guesser, depth, width, row), (size, number))
            with self.assertRaises(InvalidNumber):
                row_at(guesser, depth, width, many, size, last + 1)
            row = drawn.samples(many, depth)
            size, number = number_of(guesser, depth, width, row)
            self.assertEqual(row_at(guesser, depth, width, many, size, number), row)

    def test_rows_of_200_samples(self):
        drawn = Drawn(522)
        for depth, width in ((3, 1), (4, 0), (24, 22)):
            row = drawn.samples(200, depth)
            size, number = number_of(steps(1), depth, width, row)
            self.assertEqual(row_at(steps(1), depth, width, 200, size, number), row)

    def test_drawn_rows_stand_in_order(self):
        drawn = Drawn(521)
        for _ in range(40):
            guesser, depth = drawn.item(GUESSERS), drawn.between(2, 10)
            width, many = drawn.between(max(0, depth - 6), depth), drawn.between(2, 20)
            row = drawn.samples(many, depth)
            size, number = number_of(guesser, depth, width, row)
            if number + 1 < how_many(depth, width, many, size):
                behind = row_at(guesser, depth, width, many, size, number + 1)
                self.assertLess(folds_of(guesser, depth, row), folds_of(guesser, depth, behind))


class Means(unittest.TestCase):

    def test_over_all_samples(self):
        for depth in range(1, 11):
            means = []
            for width in range(depth + 1):
                prices = [price_of(fold, width) for fold in range(2 ** depth)]
                whole = Fraction(sum(prices), len(prices))
                self.assertEqual(mean(depth, width), (whole.numerator, whole.denominator))
                self.assertGreaterEqual(whole, depth + Fraction(1, 2))
                means.append(whole)
                parts = sum(Fraction(1, 2 ** price) for price in prices)
                self.assertEqual(fair(depth, width), (parts.numerator, parts.denominator))
                self.assertLess(parts, 1)
            self.assertEqual(least_means(depth), [width for width in range(depth + 1) if means[width] == min(means)])

    def test_gaps_over_all_samples(self):
        for depth in range(1, 8):
            for one, other in itertools.product(range(depth + 1), repeat=2):
                gaps = [price_of(fold, one) - price_of(fold, other) for fold in range(2 ** depth)]
                self.assertEqual(gap(one, other, depth), (max(gaps), gaps.index(max(gaps))))

    def test_great_depths(self):
        self.assertEqual(mean(24, 24), (25, 1))
        self.assertEqual(mean(24, 0), (2 ** 24 + 1, 2))
        self.assertEqual(least_means(24), [22, 23])
        self.assertEqual(fair(24, 24), (1, 2))
        self.assertEqual(fair(24, 14), (2 ** 1024 - 1, 2 ** 1024))
        self.assertEqual(gap(0, 24, 24), (2 ** 24 - 1 - 24, 2 ** 24 - 1))
        self.assertEqual(gap(24, 0, 24), (24, 0))
        self.assertEqual(gap(23, 24, 24), (0, 2 ** 23))
        self.assertEqual(gap(7, 7, 24), (0, 0))


class Limits(unittest.TestCase):

    def test_the_limits_are_reached(self):
        begun = time.monotonic()
        drawn = Drawn(550)
        for width in (0, 1, 12, 23, 24):
            least, greatest = size_bounds(24, width, 200)
            for size in (least, (least + greatest) // 2, greatest, drawn.between(least, greatest)):
                self.assertGreater(how_many(24, width, 200, size), 0)
        row = drawn.samples(40, 24)
        for guesser in GUESSERS + [Guesser([32768] * 8, 15)]:
            size, number = number_of(guesser, 24, 18, row)
            self.assertEqual(row_at(guesser, 24, 18, 40, size, number), row)
        for depth in range(1, 25):
            least_means(depth)
        self.assertLess(time.monotonic() - begun, 10)


if __name__ == "__main__":
    unittest.main()
