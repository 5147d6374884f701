"""Promises [20] to [23]: rows that go on for ever."""

import itertools
import math
import time
import unittest

from wholesound.ever import (
    alike_from, first_parted, is_told, leads_all, longest_period, period, returning, sample_at)

from tests.drawn import Drawn

TOP = 2 ** 15


def wrap(number, depth):
    return (number + 2 ** (depth - 1)) % 2 ** depth - 2 ** (depth - 1)


def samples(depth):
    return range(-2 ** (depth - 1), 2 ** (depth - 1))


def told(depth, weights, firsts, many):
    """The first so many samples of a row, step by step."""
    row = list(firsts)
    while len(row) < many:
        row.append(wrap(sum(weight * row[-1 - ahead] for ahead, weight in enumerate(weights)), depth))
    return row[:many]


def rules(most, weights):
    for many in range(most + 1):
        for chosen in itertools.product(weights, repeat=many):
            yield list(chosen)


def all_firsts(depth, many):
    return [list(firsts) for firsts in itertools.product(samples(depth), repeat=many)]


def period_by_words(depth, weights, firsts):
    """By looking for the first neighbours that come again."""
    many = len(weights)
    seen, row = {}, list(firsts)
    while tuple(row[len(row) - many:]) not in seen:
        seen[tuple(row[len(row) - many:])] = len(row)
        row = told(depth, weights, row, len(row) + 1)
    length = len(row) - seen[tuple(row[len(row) - many:])]
    row = told(depth, weights, row, len(row) + length)
    unlike = [at for at in range(len(row) - length) if row[at] != row[at + length]]
    return (unlike[-1] + 1 if unlike else 0, length)


def some_rules(drawn, many):
    """Drawn rules of all numbers of weights, great ones, even ones and ones that end in 0 among them."""
    for _ in range(many):
        order = drawn.below(9)
        top = drawn.item([1, 3, TOP])
        weights = drawn.numbers(order, -top, top)
        if drawn.below(3) == 0:
            weights = [2 * (weight // 2) for weight in weights]
        if order and drawn.below(3) == 0:
            weights[-1] = 0
        yield weights


class Samples(unittest.TestCase):

    def test_all_small_rows_that_follow(self):
        for depth, most in ((1, 4), (2, 3)):
            for weights in rules(2, range(-2, 3)):
                order = len(weights)
                for many in range(most + 1):
                    for row in all_firsts(depth, many):
                        agree = [(row[at] - sum(weights[ahead] * row[at - 1 - ahead] for ahead in range(order)))
                                 % 2 ** depth == 0 for at in range(order, many)]
                        self.assertIs(is_told(depth, weights, row), all(agree))

    def test_rows_that_are_told_and_bent(self):
        drawn = Drawn(200)
        for weights in list(some_rules(drawn, 60)) + [drawn.numbers(60, -10 ** 30 + 1, 10 ** 30 - 1), [5] * 30, []]:
            depth = drawn.between(1, 24)
            row = told(depth, weights, drawn.samples(len(weights), depth), len(weights) + 20)
            self.assertIs(is_told(depth, weights, row), True)
            self.assertIs(is_told(depth, weights, row[:len(weights)]), True)
            bent = list(row)
            bent[-1] = wrap(bent[-1] + drawn.between(1, 2 ** depth - 1), depth)
            self.assertIs(is_told(depth, weights, bent), False)

    def test_samples_at_small_places(self):
        for depth in (1, 2, 3):
            for weights in rules(2, range(-2, 4)):
                for firsts in all_firsts(depth, len(weights)):
                    row = told(depth, weights, firsts, 12)
                    got = [sample_at(depth, weights, firsts, number) for number in range(12)]
                    self.assertEqual(got, row if weights else [0] * 12)

    def test_samples_of_drawn_rules(self):
        drawn = Drawn(201)
        for weights in some_rules(drawn, 60):
            depth = drawn.between(1, 24)
            firsts = drawn.samples(len(weights), depth)
            row = told(depth, weights, firsts, 200)
            for number in (0, 1, 7, 8, 9, 63, 64, 100, 199):
                self.assertEqual(sample_at(depth, weights, firsts, number), row[number])

    def test_samples_far_away(self):
        drawn = Drawn(202)
        for weights in some_rules(drawn, 20):
            depth = drawn.between(1, 24)
            firsts = drawn.samples(len(weights), depth)
            for number in (10 ** 18 - 100, 123456789012345678, 2 ** 59):
                on = [sample_at(depth, weights, firsts, number + more) for more in range(20)]
                self.assertTrue(is_told(depth, weights, on))
        for number in (10 ** 18, 10 ** 18 - 1, 3):
            power = pow(3, number, 2 ** 24)
            self.assertEqual(sample_at(24, [3], [1], number), wrap(power, 24))
            third = number // 3 - 1
            self.assertEqual(sample_at(24, [0, 0, 9], [0, 0, 1], 3 * third + 2), wrap(pow(9, third, 2 ** 24), 24))
            self.assertEqual(sample_at(24, [2, -1], [0, 1], number), wrap(number, 24))
        self.assertEqual(sample_at(24, [], [], 10 ** 18), 0)


class Both(unittest.TestCase):

    def test_all_small_pairs(self):
        for depth in (1, 2):
            rows = [(weights, firsts, told(depth, weights, firsts, 40)) for weights in rules(2, range(-1, 3))
                    for firsts in all_firsts(depth, len(weights))]
            for one, firsts, row in rows:
                for other, seconds, second in rows[::7] + rows[:3]:
                    unlike = [at for at in range(40) if row[at] != second[at]]
                    parted = unlike[0] if unlike else None
                    alike = 0 if not unlike else None if unlike[-1] > 20 else unlike[-1] + 1
                    self.assertEqual(first_parted(depth, one, firsts, other, seconds), parted)
                    self.assertEqual(alike_from(depth, one, firsts, other, seconds), alike)

    def test_rows_that_part_late(self):
        # Both are 0 up to the place where the longer one begins: the difference is told by all its weights.
        for many in range(1, 9):
            weights, firsts = [0] * (many - 1) + [1], [0] * (many - 1) + [1]
            self.assertEqual(first_parted(3, weights, firsts, [], []), many - 1)
            self.assertIsNone(alike_from(3, weights, firsts, [], []))
            self.assertEqual(first_parted(3, [], [], weights, firsts), many - 1)
        # Rows of periods 7 and 8 are first unlike only where both periods have been seen.
        one, other = [0] * 6 + [1], [0] * 7 + [1]
        self.assertEqual(first_parted(2, one, [1] + [0] * 6, other, [1] + [0] * 7), 7)
        self.assertEqual(first_parted(4, [1, 1], [0, 1], [2, 0, -1], [0, 1, 2]), 2)
        # The one rule has the other one within: they part where its last first is another one.
        self.assertEqual(first_parted(4, [1, 1], [0, 1], [1, 1, 0, 0, 0, 0, 0, 0], [0, 1, 1, 2, 3, 5, -8, -2]), 7)
        self.assertIsNone(first_parted(4, [1, 1], [0, 1], [1, 1, 0, 0, 0, 0, 0, 0], [0, 1, 1, 2, 3, 5, -8, -3]))

    def test_rows_that_part_behind_both_firsts(self):
        drawn = Drawn(203)
        found = {}
        for _ in range(4000):
            depth = drawn.between(1, 2)
            one, other = drawn.numbers(drawn.between(1, 3), -1, 2), drawn.numbers(drawn.between(1, 3), -1, 2)
            firsts = drawn.samples(len(one), depth)
            seconds = told(depth, one, firsts, len(other))
            row, second = told(depth, one, firsts, 30), told(depth, other, seconds, 30)
            unlike = [at for at in range(30) if row[at] != second[at]]
            parted = unlike[0] if unlike else None
            self.assertEqual(first_parted(depth, one, firsts, other, seconds), parted)
            found[parted] = True
        # The last place at which rows of three and three weights can part is the sixth.
        self.assertLessEqual({None, 1, 2, 3, 4, 5}, set(found))

    def test_slowest_to_be_alike(self):
        for depth in range(1, 25):
            for many in (1, 8):
                weights, firsts = [0] * (many - 1) + [2], [0] * (many - 1) + [-1]
                self.assertEqual(alike_from(depth, weights, firsts, [], []), many * depth)
                self.assertEqual(alike_from(depth, [], [], weights, firsts), many * depth)
                self.assertEqual(alike_from(depth, weights, firsts, weights, [0] * many), many * depth)
        self.assertEqual(alike_from(4, [1, 1, 0], [5, 0, 1], [1, 1], [0, 1]), None)
        self.assertEqual(alike_from(4, [1, 1, 0], [5, 0, 1], [1, 1, 0], [-1, 0, 1]), 1)
        self.assertEqual(alike_from(4, [1], [1], [1], [1]), 0)

    def test_drawn_pairs(self):
        drawn = Drawn(204)
        for one in some_rules(drawn, 40):
            other = drawn.item([one, one + [0] if len(one) < 8 else one, [2 * (weight // 2) for weight in one]])
            depth = drawn.between(1, 24)
            firsts, seconds = drawn.samples(len(one), depth), drawn.samples(len(other), depth)
            row, second = told(depth, one, firsts, 1200), told(depth, other, seconds, 1200)
            unlike = [at for at in range(1200) if row[at] != second[at]]
            self.assertEqual(first_parted(depth, one, firsts, other, seconds), unlike[0] if unlike else None)
            alike = 0 if not unlike else None if unlike[-1] > 800 else unlike[-1] + 1
            self.assertEqual(alike_from(depth, one, firsts, other, seconds), alike)


class Periods(unittest.TestCase):

    def check(self, depth, weights):
        found = []
        for firsts in all_firsts(depth, len(weights)):
            found.append(period_by_words(depth, weights, firsts))
            self.assertEqual(period(depth, weights, firsts), found[-1], (depth, weights, firsts))
        longest = (max(head for head, _ in found), math.lcm(*[length for _, length in found]))
        self.assertEqual(longest_period(depth, weights), longest)
        self.assertIn(longest, found)
        for number in range(1, 9):
            back = [head == 0 and number % length == 0 for head, length in found]
            self.assertEqual(returning(depth, weights, number), sum(back), (depth, weights, number))
        self.assertEqual(returning(depth, weights, longest[1]), sum(head == 0 for head, _ in found))

    def test_all_small_rules(self):
        for depth, most in ((1, 4), (2, 2), (3, 2)):
            for weights in rules(most, range(2 ** depth)):
                self.check(depth, weights)

    def test_some_rules_of_three_weights(self):
        for weights in ([1, 2, 3], [0, 0, 2], [-1, 2, 0], [2, 2, 2], [TOP, -TOP, 1], [-3, 1, 1]):
            self.check(2, weights)

    def test_rules_of_eight_weights_over_two(self):
        drawn = Drawn(205)
        for _ in range(60):
            weights = drawn.numbers(8, 0, 1)
            for firsts in ([0] * 7 + [-1], drawn.samples(8, 1)):
                self.assertEqual(period(1, weights, firsts), period_by_words(1, weights, firsts))

    def test_all_rules_of_up_to_eight_weights_over_two_have_such_periods(self):
        for many in (5, 6, 7, 8):
            for weights in itertools.product(range(2), repeat=many):
                if many < 7 or sum(weights) in (1, 2, 6, 8):
                    firsts = [0] * (many - 1) + [-1]
                    self.assertEqual(period(1, list(weights), firsts), period_by_words(1, list(weights), firsts))

    def test_drawn_rules_at_greater_depths(self):
        drawn = Drawn(206)
        for _ in range(30):
            depth, many = drawn.item([(4, 2), (6, 1), (3, 3), (2, 4), (10, 1), (2, 6), (5, 2)])
            weights = drawn.numbers(many, -TOP, TOP)
            for _ in range(3):
                firsts = drawn.samples(many, depth)
                self.assertEqual(period(depth, weights, firsts), period_by_words(depth, weights, firsts))

    def test_known_long_ones(self):
        self.assertEqual(period(24, [2, -1], [0, 1]), (0, 2 ** 24))
        self.assertEqual(period(24, [3], [1]), (0, 2 ** 22))
        self.assertEqual(period(24, [1, 1], [0, 1]), (0, 3 * 2 ** 23))
        self.assertEqual(longest_period(24, [1, 1]), (0, 3 * 2 ** 23))
        self.assertEqual(longest_period(24, [0] * 7 + [2]), (24 * 8, 1))
        self.assertEqual(period(24, [0] * 7 + [2], [0] * 7 + [-1]), (24 * 8, 1))
        self.assertEqual(period(24, [0] * 7 + [1], [0] * 7 + [-1]), (0, 8))
        self.assertEqual(period(24, [], []), (0, 1))
        self.assertEqual(longest_period(24, []), (0, 1))
        self.assertEqual(returning(24, [], 10 ** 18), 1)
        # Over two, these eight weights have the greatest period there is.
        weights = [0, 0, 0, 1, 1, 1, 0, 1]
        self.assertEqual(longest_period(1, weights), (0, 255))
        self.assertEqual(longest_period(24, weights)[1] % 255, 0)

    def test_the_length_is_the_least_that_leads_back(self):
        drawn = Drawn(207)
        for weights in some_rules(drawn, 25):
            depth = drawn.between(8, 24)
            firsts = drawn.samples(len(weights), depth)
            head, length = period(depth, weights, firsts)
            on = [sample_at(depth, weights, firsts, head + at) for at in range(8)]
            if head + length <= 10 ** 17:
                self.assertEqual([sample_at(depth, weights, firsts, head + length + at) for at in range(8)], on)
                for prime in (2, 3, 5, 7, 17, 31, 127):
                    if length % prime == 0:
                        less = head + length // prime
                        self.assertNotEqual([sample_at(depth, weights, firsts, less + at) for at in range(8)], on)
            if head:
                ahead = sample_at(depth, weights, firsts, head - 1)
                self.assertNotEqual(sample_at(depth, weights, firsts, head - 1 + length), ahead)
            most, longest = longest_period(depth, weights)
            self.assertTrue(head <= most and longest % length == 0)

    def test_returning_at_great_numbers(self):
        self.assertEqual(returning(24, [1], 10 ** 18), 2 ** 24)
        self.assertEqual(returning(24, [0], 10 ** 18), 1)
        self.assertEqual(returning(24, [2, -1], 10 ** 18), 2 ** 24 * 2 ** 18)
        self.assertEqual(returning(24, [2, -1], 5 ** 18), 2 ** 24)
        self.assertEqual(returning(24, [3], 2 ** 40), 2 ** 24)
        self.assertEqual(returning(24, [0] * 7 + [1], 8), 2 ** 192)
        self.assertEqual(returning(24, [0] * 7 + [1], 10 ** 18), 2 ** 192)
        self.assertEqual(returning(24, [0] * 7 + [1], 10 ** 18 - 4), 2 ** 96)

    def test_the_limits_are_reached(self):
        begun = time.monotonic()
        for weights in ([TOP] * 8, [-TOP] * 7 + [TOP - 1], [TOP - 1] * 8, [-TOP + 1, 3, -5, 7, 9, -11, 13, TOP - 1]):
            firsts = [2 ** 23 - 1, -2 ** 23, 5, 0, 1, -1, 77, 99]
            sample_at(24, weights, firsts, 10 ** 18)
            period(24, weights, firsts)
            longest_period(24, weights)
            returning(24, weights, 10 ** 18)
            leads_all(24, weights, weights[::-1])
            alike_from(24, weights, firsts, weights[::-1], firsts)
            first_parted(24, weights, firsts, weights, firsts)
        self.assertLess(time.monotonic() - begun, 20)


class Leads(unittest.TestCase):

    def leads_by_words(self, depth, one, other):
        """Whether all rows from all firsts of the one follow the other one for a while."""
        rows = [told(depth, one, firsts, len(one) + len(other) + 6) for firsts in all_firsts(depth, len(one))]
        return all(is_told(depth, other, row) for row in rows)

    def check(self, depth, one, other, wanted):
        got = leads_all(depth, one, other)
        if wanted:
            self.assertIsNone(got)
            return
        firsts, place = got
        self.assertEqual(firsts, [0] * (len(one) - 1) + [-1])
        row = told(depth, one, firsts, place + 1)
        self.assertFalse(is_told(depth, other, row))
        self.assertTrue(is_told(depth, other, row[:-1]))

    def test_all_small_pairs(self):
        for depth in (1, 2):
            pool = list(rules(2, range(2 ** depth))) + [[1, 1, 1], [0, 0, 1], [1, 0, 0], [2, 0, 1]]
            for one in pool:
                for other in pool:
                    self.check(depth, one, other, self.leads_by_words(depth, one, other))

    def test_rules_that_have_the_other_one_within(self):
        drawn = Drawn(208)
        for _ in range(60):
            depth = drawn.between(1, 24)
            one, third = drawn.numbers(drawn.between(1, 4), -20, 20), drawn.numbers(drawn.between(0, 4), -20, 20)
            factors = [0] * (len(one) + len(third) + 1)
            for at, factor in enumerate([1] + [-weight for weight in one]):
                for ahead, second in enumerate([1] + [-weight for weight in third]):
                    factors[at + ahead] += factor * second
            other = [-factor for factor in factors[1:]]
            self.check(depth, one, other, True)
            at = drawn.between(len(third), len(other) - 1)
            bent = other[:at] + [other[at] + 2 ** (depth - 1)] + other[at + 1:]
            if abs(bent[at]) <= TOP:
                self.check(depth, one, bent, False)

    def test_rules_without_weights(self):
        self.assertIsNone(leads_all(5, [], []))
        self.assertIsNone(leads_all(5, [], [3, 4, 5]))
        self.assertEqual(leads_all(5, [1], []), ([-1], 0))
        self.assertEqual(leads_all(5, [32, 7], []), ([0, -1], 1))
        self.assertEqual(leads_all(5, [0, 0], [0]), ([0, -1], 1))
        self.assertEqual(leads_all(5, [0], [0, 0]), None)


if __name__ == "__main__":
    unittest.main()
