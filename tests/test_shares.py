"""Promises [40] to [44]: prices of folds."""

import itertools
import time
import unittest
from fractions import Fraction
from math import comb

from wholesound.shares import (
    bit_counts, how_many_least, how_many_like, how_many_with, least_width, loss, loss_row, mean_least, parting_width,
    possible_widths, price, price_bounds, row_of_counts, safest, same_prices, width_row)

from tests.drawn import Drawn


def all_folds(many, below):
    return [list(folds) for folds in itertools.product(range(below), repeat=many)]


def price_by_words(folds, width):
    return sum(fold // 2 ** width + 1 + width for fold in folds)


def least_by_words(folds):
    prices = [price_by_words(folds, width) for width in range(max([fold.bit_length() for fold in folds]) + 2)]
    widths = [width for width, told in enumerate(prices) if told == min(prices)]
    return (min(prices), widths[0], widths[-1])


def rows_with_sum(many, total):
    if many == 1:
        return [[total]]
    return [[first] + rest for first in range(total + 1) for rest in rows_with_sum(many - 1, total - first)]


class Prices(unittest.TestCase):

    def test_price_by_its_words(self):
        drawn = Drawn(400)
        for folds in all_folds(3, 5) + [[], [0], [2 ** 40 - 1] * 9, drawn.numbers(50, 0, 2 ** 40), [10 ** 30 - 1]]:
            for width in list(range(12)) + [39, 40, 41, 99, 100, 119, 120]:
                self.assertEqual(price(folds, width), price_by_words(folds, width))

    def test_bit_counts_by_their_words(self):
        drawn = Drawn(401)
        for folds in all_folds(2, 9) + all_folds(3, 4) + [[], drawn.numbers(30, 0, 2 ** 40), [10 ** 30 - 1, 0]]:
            long = max([len(bin(fold)) - 2 for fold in folds if fold], default=0)
            wanted = [sum(fold // 2 ** at % 2 for fold in folds) for at in range(long)]
            self.assertEqual(bit_counts(folds), wanted)

    def test_same_prices_at_every_width(self):
        pool = [folds for many in range(4) for folds in all_folds(many, 5)]
        for one in pool:
            for other in pool[::3]:
                unlike = [width for width in range(121) if price_by_words(one, width) != price_by_words(other, width)]
                self.assertIs(same_prices(one, other), unlike == [])
                self.assertEqual(parting_width(one, other), unlike[0] if unlike else None)
                self.assertIs(same_prices(one, other), len(one) == len(other) and bit_counts(one) == bit_counts(other))
                if len(unlike) > 3:
                    break

    def test_widths_that_part(self):
        for many in range(1, 41):
            self.assertEqual(parting_width([2 ** many - 1, 0], [2 ** many - 2, 0]), 0)
            # Only the highest bits and the sum are the same.
            one, other = [2 ** many, 0, 0], [2 ** (many - 1), 2 ** (many - 1), 0]
            self.assertEqual(parting_width(one, other), many if many else 0)
        self.assertEqual(parting_width([0, 0], [1]), None if price([0, 0], 0) != price([1], 0) else 1)
        self.assertEqual(parting_width([], [0]), 0)
        self.assertIsNone(parting_width([], []))
        self.assertEqual(parting_width([3, 0], [2, 1]), None)
        self.assertEqual(parting_width([0, 0, 0], [2]), 1)

    def test_drawn_folds_of_the_same_counts(self):
        drawn = Drawn(402)
        for _ in range(60):
            folds = drawn.numbers(drawn.between(1, 30), 0, 2 ** 40 - 1)
            counts = bit_counts(folds)
            like = row_of_counts(len(folds), counts)
            self.assertEqual(bit_counts(like), counts)
            self.assertTrue(same_prices(folds, like))
            at, bit = drawn.below(len(folds)), 1 << drawn.below(40)
            bent = folds[:at] + [folds[at] ^ bit] + folds[at + 1:]
            self.assertFalse(same_prices(folds, bent))
            unlike = [width for width in range(121) if price_by_words(folds, width) != price_by_words(bent, width)]
            self.assertEqual(parting_width(folds, bent), unlike[0])

    def test_rows_of_counts(self):
        for many in range(5):
            for counts in itertools.product(range(many + 1), repeat=3):
                folds = row_of_counts(many, list(counts))
                self.assertEqual(len(folds), many)
                for place, fold in enumerate(folds):
                    self.assertEqual(fold, sum(2 ** at for at, count in enumerate(counts) if place < count))
        self.assertEqual(row_of_counts(0, []), [])
        self.assertEqual(row_of_counts(0, [0, 0]), [])
        self.assertEqual(row_of_counts(2, []), [0, 0])
        self.assertEqual(row_of_counts(1, [0] * 99 + [1]), [2 ** 99])

    def test_how_many_like_over_all_lists(self):
        for many, below in ((1, 8), (2, 8), (3, 4), (4, 4)):
            lists = all_folds(many, below)
            shown = {}
            for folds in lists:
                key = tuple(bit_counts(folds))
                shown[key] = shown.get(key, 0) + 1
            for folds in lists:
                self.assertEqual(how_many_like(folds), shown[tuple(bit_counts(folds))])
        self.assertEqual(how_many_like([]), 1)
        self.assertEqual(how_many_like([0, 0]), 1)

    def test_least_width_by_its_words(self):
        for many in range(1, 4):
            for folds in all_folds(many, {1: 80, 2: 20, 3: 9}[many]):
                self.assertEqual(least_width(folds), least_by_words(folds))
        drawn = Drawn(410)
        for _ in range(80):
            folds = drawn.numbers(drawn.between(1, 40), 0, 2 ** drawn.below(41))
            self.assertEqual(least_width(folds), least_by_words(folds))
        self.assertEqual(least_width([]), (0, 0, None))
        self.assertEqual(least_width([0]), (1, 0, 0))
        self.assertEqual(least_width([2]), (3, 0, 2))
        self.assertEqual(least_width([10 ** 30 - 1]), least_by_words([10 ** 30 - 1]))

    def test_first_and_last_by_the_rule_of_the_document(self):
        drawn = Drawn(411)
        for _ in range(60):
            folds = drawn.numbers(drawn.between(1, 12), 0, 2 ** drawn.below(20))
            _, first, last = least_width(folds)
            for width in range(30):
                above = sum((fold // 2 ** width + 1) // 2 for fold in folds) <= len(folds)
                self.assertEqual(width >= first, above)
            self.assertTrue(all(price(folds, width) == price(folds, first) for width in range(first, last + 1)))


class Totals(unittest.TestCase):

    SIZES = ((1, 70), (2, 40), (3, 22), (4, 15), (5, 12))

    def test_over_all_rows(self):
        for many, most in self.SIZES:
            for total in range(most):
                rows = rows_with_sum(many, total)
                told = [least_by_words(row) for row in rows]
                firsts = {first for _, first, _ in told}
                self.assertEqual(possible_widths(many, total), (min(firsts), max(firsts)))
                self.assertEqual(firsts, set(range(min(firsts), max(firsts) + 1)))
                losses = []
                for width in range(10):
                    prices = [price_by_words(row, width) for row in rows]
                    self.assertEqual(price_bounds(many, total, width), (min(prices), max(prices)))
                    self.check_width(rows, told, width, firsts)
                    losses.append(max(one - least[0] for one, least in zip(prices, told)))
                    self.assertEqual(loss(many, total, width), losses[-1])
                    row = loss_row(many, total, width)
                    self.assertIn(row, rows)
                    self.assertEqual(price_by_words(row, width) - least_by_words(row)[0], losses[-1])
                self.assertEqual(safest(many, total), (losses.index(min(losses)), min(losses)))

    def check_width(self, rows, told, width, firsts):
        row = width_row(len(rows[0]), sum(rows[0]), width)
        if width in firsts:
            self.assertIn(row, rows)
            self.assertEqual(least_by_words(row)[1], width)
        else:
            self.assertIsNone(row)

    def test_by_the_rules_of_the_document(self):
        drawn = Drawn(420)
        for _ in range(100):
            many = drawn.between(1, 10 ** drawn.between(1, 29))
            total = drawn.between(0, 10 ** drawn.between(1, 30) - 1)
            possible = [width for width in range(121) if total <= many * (3 * 2 ** width - 1)
                        and (width == 0 or total >= many * 2 ** (width - 1) + 2 ** width)]
            self.assertEqual(possible_widths(many, total), (possible[0], possible[-1]))
            self.assertLessEqual(len(possible), 3)

    def test_drawn_rows_stay_within(self):
        drawn = Drawn(421)
        for _ in range(200):
            row = drawn.numbers(drawn.between(1, 30), 0, 2 ** drawn.below(12))
            if drawn.below(2):
                row[0] += drawn.below(10 ** 4)
            many, total = len(row), sum(row)
            least, first, _ = least_width(row)
            low, high = possible_widths(many, total)
            self.assertTrue(low <= first <= high)
            for width in range(16):
                told = price(row, width)
                self.assertTrue(price_bounds(many, total, width)[0] <= told <= price_bounds(many, total, width)[1])
                self.assertLessEqual(told - least, loss(many, total, width))
                worst = loss_row(many, total, width)
                self.assertEqual((len(worst), sum(worst), min(worst) >= 0), (many, total, True))
                self.assertEqual(price(worst, width) - least_width(worst)[0], loss(many, total, width))

    def test_safest_is_the_least_width_of_the_least_loss(self):
        drawn = Drawn(430)
        for _ in range(40):
            many = drawn.between(1, 10 ** drawn.between(1, 29))
            total = drawn.between(0, 10 ** drawn.between(1, 30) - 1)
            losses = [loss(many, total, width) for width in range(121)]
            self.assertEqual(safest(many, total), (losses.index(min(losses)), min(losses)))
        self.assertEqual(safest(5, 0), (0, 0))
        # A single fold loses nothing at its own width.
        for total in (0, 1, 7, 1000, 10 ** 30 - 1):
            self.assertEqual(safest(1, total), (least_width([total])[1], 0))

    def test_great_rows(self):
        drawn = Drawn(422)
        for many in (1, 2, 3999, 4000):
            for total in (0, 1, 3999, 4000, 10 ** 6, 10 ** 30 - 1, drawn.below(10 ** 30)):
                for width in (0, 1, 7, 60, 99, 100, 120):
                    row = width_row(many, total, width)
                    low, high = possible_widths(many, total)
                    self.assertEqual(row is not None, low <= width <= high)
                    if row is not None:
                        self.assertEqual((len(row), sum(row), min(row) >= 0), (many, total, True))
                        self.assertEqual(least_width(row)[1], width)
                    row = loss_row(many, total, width)
                    self.assertEqual((len(row), sum(row), min(row) >= 0), (many, total, True))
                    self.assertEqual(price(row, width) - least_width(row)[0], loss(many, total, width))


class Tallies(unittest.TestCase):

    def test_over_all_rows(self):
        for many, most in ((1, 7), (2, 5), (3, 4), (4, 3), (5, 2), (6, 2), (9, 1)):
            for bits in range(most + 1):
                told = [least_by_words(folds) for folds in all_folds(many, 2 ** bits)]
                prices = [least for least, _, _ in told]
                firsts = [first for _, first, _ in told]
                for size in range(max(prices) + 3):
                    self.assertEqual(how_many_least(many, bits, size), prices.count(size))
                for width in list(range(bits + 3)) + [120]:
                    self.assertEqual(how_many_with(many, bits, width), firsts.count(width))
                mean = Fraction(sum(prices), len(prices))
                self.assertEqual(mean_least(many, bits), (mean.numerator, mean.denominator))

    def test_great_ones_add_up(self):
        for width_sum in ((40, 24), (39, 23), (40, 5)):
            rows = 2 ** (width_sum[0] * width_sum[1])
            self.assertEqual(sum(how_many_with(*width_sum, width) for width in range(width_sum[1] + 1)), rows)
        for many, bits in ((40, 0), (1, 24), (40, 1), (17, 6), (9, 13)):
            rows = 2 ** (many * bits)
            self.assertEqual(sum(how_many_with(many, bits, width) for width in range(bits + 1)), rows)
            counts = {size: how_many_least(many, bits, size) for size in range(many * (bits + 3) + 3)}
            self.assertEqual(sum(counts.values()), rows)
            mean = Fraction(sum(size * count for size, count in counts.items()), rows)
            self.assertEqual(mean_least(many, bits), (mean.numerator, mean.denominator))
            self.assertEqual(how_many_least(many, bits, 10 ** 30 - 1), 0)

    def test_rows_of_one_bit(self):
        # With one bit a row of n folds costs n and its ones at the width 0, and 2 n at the width 1: the first is less or like.
        for many in (1, 2, 7, 40):
            for ones in range(many + 1):
                self.assertEqual(how_many_least(many, 1, many + ones), comb(many, ones))
            self.assertEqual(how_many_with(many, 1, 0), 2 ** many)
            self.assertEqual(how_many_with(many, 1, 1), 0)


class Limits(unittest.TestCase):

    def test_the_limits_are_reached(self):
        begun = time.monotonic()
        drawn = Drawn(440)
        folds, others = drawn.numbers(4000, 0, 2 ** 40 - 1), drawn.numbers(4000, 0, 2 ** 40 - 1)
        for width in (0, 39, 120):
            self.assertEqual(price(folds, width), price_by_words(folds, width))
        self.assertEqual(row_of_counts(4000, bit_counts(folds))[-1], 0)
        self.assertFalse(same_prices(folds, others))
        self.assertTrue(same_prices(folds, folds[::-1]))
        self.assertEqual(parting_width(folds, folds[::-1]), None)
        like = 1
        for count in bit_counts(folds):
            like *= comb(4000, count)
        self.assertEqual(how_many_like(folds), like)
        self.assertEqual(least_width(folds), least_by_words(folds))
        far = 10 ** 30 - 1
        for many, total in ((far, far), (1, far), (far, 1), (4000, far), (far // 7, far)):
            for width in (0, 50, 120):
                price_bounds(many, total, width)
                loss(many, total, width)
            possible_widths(many, total)
            safest(many, total)
        for size in (40, 500, 1000):
            how_many_least(40, 24, size)
        self.assertLess(time.monotonic() - begun, 20)


if __name__ == "__main__":
    unittest.main()
