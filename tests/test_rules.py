"""Promises [24] to [26]: the shortest rules of a row, and what all its rules tell behind it."""

import itertools
import time
import unittest
from fractions import Fraction
from math import gcd

from wholesound.ever import (
    how_many_rules, is_next_paper, is_shortest, is_shortest_whole, next_paper, next_samples, shortest,
    shortest_whole)
from wholesound.guessers import Guesser

from tests.drawn import Drawn
from tests.odd import things

ODD_ITEMS = [None, True, False, "0", [0], (0,), {}, Guesser([], 0)]


def samples(depth):
    return range(-2 ** (depth - 1), 2 ** (depth - 1))


def wrap(number, depth):
    return (number + 2 ** (depth - 1)) % 2 ** depth - 2 ** (depth - 1)


def all_rows(depth, many):
    return [list(row) for row in itertools.product(samples(depth), repeat=many)]


def whole(value):
    return type(value) is int


def samples_of(value, depth, many):
    return type(value) is list and len(value) == many and all(whole(item) and item in samples(depth) for item in value)


def follows(depth, weights, row):
    sums = [sum(weight * row[at - 1 - ahead] for ahead, weight in enumerate(weights)) for at in range(len(weights), len(row))]
    return all((told - sample) % 2 ** depth == 0 for told, sample in zip(sums, row[len(weights):]))


def judged(depth, row, value):
    """Whether a value is an answer of `shortest`, by the words of [24]."""
    if type(value) is not tuple or len(value) != 3 or not whole(value[0]) or not 0 <= value[0] <= len(row):
        return False
    many, weights, paper = value
    if not samples_of(weights, depth, many) or not follows(depth, weights, row):
        return False
    if many == 0:
        return paper is None
    if not samples_of(paper, depth, len(row) - many + 1):
        return False
    sums = [sum(share * row[place - ahead] for share, place in zip(paper, range(many - 1, len(row))))
            for ahead in range(many)]
    return sums[0] % 2 ** depth != 0 and all(told % 2 ** depth == 0 for told in sums[1:])


def next_judged(depth, row, many, value):
    """Whether a value is an answer of `next_paper`, by the words of [25]."""
    if type(value) is not tuple or len(value) != 5:
        return False
    number, power, weights, shares, mover = value
    if not whole(number) or not whole(power) or not 0 <= power <= depth or not 0 <= number < 2 ** power:
        return False
    if not samples_of(weights, depth, many) or not follows(depth, weights, row):
        return False
    if not samples_of(shares, depth, len(row) - many):
        return False
    for ahead in range(many + 1):
        told = sum(share * row[place - ahead] for share, place in zip(shares, range(many, len(row))))
        wanted = number if ahead == 0 else row[len(row) - ahead]
        if (told - 2 ** (depth - power) * wanted) % 2 ** depth != 0:
            return False
    if power == depth:
        return mover is None
    if not samples_of(mover, depth, many):
        return False
    for place in range(many, len(row) + 1):
        told = sum(one * row[place - ahead] for ahead, one in enumerate(mover, 1))
        if (told - (2 ** power if place == len(row) else 0)) % 2 ** depth != 0:
            return False
    return True


def whole_judged(row, value):
    """Whether a value is an answer of `shortest_whole`, by the words of [26]."""
    if type(value) is not tuple or len(value) != 3 or not whole(value[0]) or not 0 <= value[0] <= len(row):
        return False
    many, weights, paper = value
    if type(weights) is not list or len(weights) != many or not all(whole(weight) for weight in weights):
        return False
    for at in range(many, len(row)):
        if row[at] != sum(weight * row[at - 1 - ahead] for ahead, weight in enumerate(weights)):
            return False
    if many == 0:
        return paper is None
    if type(paper) is not list or len(paper) != len(row) - many + 1:
        return False
    for share in paper:
        if type(share) is not tuple or len(share) != 2 or not whole(share[0]) or not whole(share[1]):
            return False
        if share[1] < 1 or gcd(share[0], share[1]) != 1:
            return False
    sums = [sum(Fraction(*share) * row[place - ahead] for share, place in zip(paper, range(many - 1, len(row))))
            for ahead in range(many)]
    return sums[0].denominator != 1 and all(told.denominator == 1 for told in sums[1:])


def bent_tuples(value, items, deep):
    """The value with one of its parts bent: put off, put twice, replaced, or with one item of a list bent."""
    for at, part in enumerate(value):
        others = list(items)
        if isinstance(part, list):
            others += [part[:-1], part + part[-1:], part + [0], tuple(part), part[::-1], [part]]
            for place, item in enumerate(part):
                others += [part[:place] + [other] + part[place + 1:] for other in deep(item)]
        elif whole(part):
            others += [part + 1, part - 1, part + 2, -part, [part], 10 ** 29]
        for other in others:
            yield value[:at] + (other,) + value[at + 1:]
    yield value[:-1]
    yield value + (None,)
    yield list(value)
    yield (value,)


def bent_samples(depth):
    edges = [-2 ** (depth - 1) - 1, 2 ** (depth - 1)]
    return lambda item: ODD_ITEMS + edges + [item + 1, item - 1, item + 2 ** depth, -item, item ^ 2 ** (depth - 1)]


class Shortest(unittest.TestCase):

    def least(self, depth, row):
        for many in range(len(row) + 1):
            if any(follows(depth, weights, row) for weights in all_rows(depth, many)):
                return many
        return None

    def test_all_small_rows(self):
        for depth, most in ((1, 6), (2, 4), (3, 3)):
            for many in range(most + 1):
                for row in all_rows(depth, many):
                    value = shortest(depth, row)
                    self.assertEqual(value[0], self.least(depth, row))
                    self.assertTrue(judged(depth, row, value), (depth, row, value))
                    self.assertIs(is_shortest(depth, row, value), True)

    def test_all_values_of_some_rows(self):
        for depth, row in ((2, [1, -2]), (2, [-2, 1, 0]), (1, [-1, -1, 0]), (2, [0, 0, 0]), (3, [2, 1]), (1, [0, -1])):
            for many in range(len(row) + 1):
                for weights in all_rows(depth, many):
                    for long in range(len(row) + 2):
                        for paper in all_rows(depth, long) + [None]:
                            value = (many, weights, paper)
                            self.assertIs(is_shortest(depth, row, value), judged(depth, row, value), (row, value))

    def drawn_rows(self, seed, many, longest):
        """Rows that follow rules to some place, at all depths."""
        drawn = Drawn(seed)
        for _ in range(many):
            depth = drawn.between(1, 24)
            weights = drawn.numbers(drawn.below(6), -9, 9)
            row = drawn.samples(len(weights), depth)
            factor = drawn.item([1, 1, 2, 4])
            row = [wrap(sample * factor, depth) for sample in row]
            for _ in range(drawn.below(longest)):
                told = sum(weight * row[-1 - ahead] for ahead, weight in enumerate(weights))
                row.append(wrap(told, depth))
            if drawn.below(3) == 0:
                row += drawn.samples(drawn.below(4), depth)
            yield depth, row

    def test_drawn_rows(self):
        for depth, row in self.drawn_rows(240, 150, 30):
            value = shortest(depth, row)
            self.assertTrue(judged(depth, row, value), (depth, row))
            self.assertIs(is_shortest(depth, row, value), True)

    def test_bent_in_one_place(self):
        for depth, row in list(self.drawn_rows(241, 25, 8)) + [(2, [-2, 1, 1]), (3, [0, 0, 0, -4]), (5, []), (5, [0] * 4)]:
            value = shortest(depth, row)
            for bent in bent_tuples(value, ODD_ITEMS, bent_samples(depth)):
                self.assertIs(is_shortest(depth, row, bent), judged(depth, row, bent), (depth, row, bent))
            for odd in things():
                self.assertIs(is_shortest(depth, row, odd), False)

    def test_some(self):
        self.assertEqual(shortest(5, []), (0, [], None))
        self.assertEqual(shortest(5, [0] * 60), (0, [], None))
        self.assertEqual(shortest(5, [0, 0, 0, 1])[0], 4)
        self.assertEqual(shortest(5, [3])[0], 1)
        self.assertEqual(shortest(3, [2, 1])[0], 2)
        self.assertEqual(shortest(3, [1, 2])[:2], (1, [2]))
        self.assertEqual(shortest(24, [0] * 59 + [-2 ** 23])[0], 60)
        fibonacci = [0, 1]
        while len(fibonacci) < 30:
            fibonacci.append(wrap(fibonacci[-1] + fibonacci[-2], 24))
        self.assertEqual(shortest(24, fibonacci)[:2], (2, [1, 1]))

    def test_the_limits_are_reached(self):
        begun = time.monotonic()
        drawn = Drawn(242)
        rows = [drawn.samples(60, 24), [sample // 1024 * 1024 for sample in drawn.samples(60, 24)], [0] * 30 + drawn.samples(30, 24)]
        row = drawn.samples(20, 24)
        weights = drawn.numbers(20, -2 ** 15, 2 ** 15)
        while len(row) < 60:
            told = sum(weight * row[-1 - ahead] for ahead, weight in enumerate(weights))
            row.append(wrap(told, 24))
        for row in rows + [row]:
            self.assertTrue(judged(24, row, shortest(24, row)))
            self.assertTrue(is_shortest(24, row, shortest(24, row)))
        self.assertLess(time.monotonic() - begun, 20)


class Next(unittest.TestCase):

    def check(self, depth, row, many):
        rules = [weights for weights in all_rows(depth, many) if follows(depth, weights, row)]
        self.assertEqual(how_many_rules(depth, row, many), len(rules))
        told = {sum(weight * row[len(row) - 1 - ahead] for ahead, weight in enumerate(weights)) % 2 ** depth
                for weights in rules}
        value = next_paper(depth, row, many)
        if not rules:
            self.assertIsNone(next_samples(depth, row, many))
            self.assertIsNone(value)
            return
        number, power = next_samples(depth, row, many)
        self.assertEqual(told, {one for one in range(2 ** depth) if (one - number) % 2 ** power == 0})
        self.assertTrue(0 <= number < 2 ** power)
        self.assertEqual(value[:2], (number, power))
        self.assertTrue(next_judged(depth, row, many, value), (depth, row, many, value))
        self.assertIs(is_next_paper(depth, row, many, value), True)

    def test_all_small_rows(self):
        for depth, most, few in ((1, 5, 5), (2, 4, 2), (3, 3, 2), (2, 3, 3), (4, 2, 1)):
            for long in range(most + 1):
                for row in all_rows(depth, long):
                    for many in range(min(few, long) + 1):
                        self.check(depth, row, many)

    def test_no_paper_is_one_where_no_rule_is_followed(self):
        row = [0, 0, 1]
        self.assertIsNone(next_paper(3, row, 2))
        for value in things() + [(0, 0, [0, 0], [0], None), (0, 3, [0, 0], [0], None), (0, 0, [0, 0], [0], [0, 0])]:
            self.assertIs(is_next_paper(3, row, 2, value), False)

    def drawn_rows(self, seed, many, longest):
        drawn = Drawn(seed)
        for _ in range(many):
            depth, order = drawn.between(1, 24), drawn.below(7)
            weights = drawn.numbers(order, -2 ** 15, 2 ** 15)
            factor = drawn.item([1, 1, 2, 8])
            row = [wrap(sample * factor, depth) for sample in drawn.samples(order, depth)]
            for _ in range(drawn.below(longest)):
                told = sum(weight * row[-1 - ahead] for ahead, weight in enumerate(weights))
                row.append(wrap(told, depth))
            yield depth, row, drawn.between(min(order, len(row)), min(len(row), order + 3))

    def test_drawn_rows(self):
        for depth, row, many in self.drawn_rows(250, 150, 12):
            value = next_paper(depth, row, many)
            self.assertTrue(next_judged(depth, row, many, value), (depth, row, many, value))
            self.assertIs(is_next_paper(depth, row, many, value), True)
            self.assertEqual(next_samples(depth, row, many), value[:2])
            self.assertGreaterEqual(how_many_rules(depth, row, many), 2 ** (depth - value[1]))

    def test_bent_in_one_place(self):
        some = [(2, [-2, 1, 1], 2), (2, [-2, -2], 1), (3, [0, 0, 0], 0), (3, [], 0), (4, [3], 1), (4, [4, 2, 1], 3)]
        for depth, row, many in list(self.drawn_rows(251, 20, 6)) + some:
            value = next_paper(depth, row, many)
            for bent in bent_tuples(value, ODD_ITEMS + [[0] * many], bent_samples(depth)):
                wanted = next_judged(depth, row, many, bent)
                self.assertIs(is_next_paper(depth, row, many, bent), wanted, (depth, row, many, bent))
            for odd in things():
                self.assertIs(is_next_paper(depth, row, many, odd), False)

    def test_all_values_of_some_rows(self):
        for depth, row, many in ((1, [-1, 0, -1], 2), (2, [-2, -2], 1), (2, [-2, 0], 1), (1, [-1, -1], 2), (2, [1], 1)):
            for number, power in itertools.product(range(-1, 5), range(-1, 4)):
                for weights in all_rows(depth, many):
                    for shares in all_rows(depth, len(row) - many):
                        for mover in all_rows(depth, many) + [None]:
                            value = (number, power, weights, shares, mover)
                            wanted = next_judged(depth, row, many, value)
                            self.assertIs(is_next_paper(depth, row, many, value), wanted)

    def test_some(self):
        self.assertEqual(how_many_rules(24, [1, 2, 3], 3), 2 ** 72)
        self.assertEqual(how_many_rules(24, [0] * 40, 12), 2 ** 288)
        self.assertEqual(how_many_rules(24, [0, 0, 1], 0), 0)
        self.assertEqual(how_many_rules(24, [0, 0, 0], 0), 1)
        self.assertEqual(how_many_rules(24, [], 0), 1)
        self.assertEqual(next_samples(24, [], 0), (0, 24))
        self.assertEqual(next_samples(24, [0, 0], 0), (0, 24))
        self.assertEqual(next_samples(24, [4, 8], 2), (0, 2))
        self.assertEqual(next_samples(24, [0, 0], 2), (0, 24))
        self.assertEqual(next_samples(24, [1, 5, 25], 1), (125, 24))
        self.assertIsNone(next_samples(24, [1, 5, 26], 1))

    def test_the_limits_are_reached(self):
        begun = time.monotonic()
        drawn = Drawn(252)
        weights = drawn.numbers(12, -2 ** 15, 2 ** 15)
        for factor in (1, 1024):
            row = [sample // factor * factor for sample in drawn.samples(12, 24)]
            while len(row) < 40:
                told = sum(weight * row[-1 - ahead] for ahead, weight in enumerate(weights))
                row.append(wrap(told, 24))
            value = next_paper(24, row, 12)
            self.assertTrue(next_judged(24, row, 12, value))
            self.assertTrue(is_next_paper(24, row, 12, value))
            self.assertGreater(how_many_rules(24, row, 12), 0)
        self.assertLess(time.monotonic() - begun, 20)


class Whole(unittest.TestCase):

    def test_all_small_rows(self):
        for many in range(5):
            for row in itertools.product(range(-2, 3), repeat=many):
                value = shortest_whole(list(row))
                self.assertTrue(whole_judged(list(row), value), (row, value))
                self.assertIs(is_shortest_whole(list(row), value), True)

    def drawn_rows(self, seed, many, longest, size):
        drawn = Drawn(seed)
        for _ in range(many):
            weights = drawn.numbers(drawn.below(5), -3, 3)
            row = drawn.numbers(len(weights), -6, 6)
            factor = drawn.item([1, 2, 6])
            row = [number * factor for number in row]
            while len(row) < longest and max([0] + [abs(number) for number in row]) < size:
                row.append(sum(weight * row[-1 - ahead] for ahead, weight in enumerate(weights)))
            if drawn.below(3) == 0:
                row[-1:] = drawn.numbers(2, -9, 9)
            yield row

    def test_drawn_rows(self):
        for row in self.drawn_rows(260, 200, 11, 2 ** 18):
            value = shortest_whole(row)
            self.assertTrue(whole_judged(row, value), (row, value))
            self.assertIs(is_shortest_whole(row, value), True)

    def test_bent_in_one_place(self):
        def deep(item):
            if whole(item):
                return ODD_ITEMS + [item + 1, item - 1, -item]
            top, under = item
            return ODD_ITEMS + [(2 * top, 2 * under), (-top, -under), (top, 0), (top + 1, under), (top, under + 1), [top, under],
                                (top,), (top, under, 1), (True, under), (top, True), (top + under, under), (None, 1), (0, 1),
                                (0, 2), ("0", 1)]
        for row in list(self.drawn_rows(261, 40, 6, 99)) + [[], [0], [0, 0, 0], [2, 1], [0, 0, 4], [4, 6, 9]]:
            value = shortest_whole(row)
            for bent in bent_tuples(value, ODD_ITEMS, deep):
                self.assertIs(is_shortest_whole(row, bent), whole_judged(row, bent), (row, bent))
            for odd in things():
                self.assertIs(is_shortest_whole(row, odd), False)

    def test_some(self):
        self.assertEqual(shortest_whole([]), (0, [], None))
        self.assertEqual(shortest_whole([0, 0]), (0, [], None))
        self.assertEqual(shortest_whole([1, 2, 4, 8])[:2], (1, [2]))
        self.assertEqual(shortest_whole([2, 3])[0], 2)
        self.assertEqual(shortest_whole([2, 4])[:2], (1, [2]))
        self.assertEqual(shortest_whole([0, 1, 1, 2, 3, 5, 8])[:2], (2, [1, 1]))
        self.assertEqual(shortest_whole([4, 6, 9])[0], 3)
        self.assertEqual(shortest_whole([2, 3, 4])[0], 2)
        # By fractions each of these has a rule of one weight, by whole weights only of as many as numbers.
        self.assertEqual(shortest_whole([9, 6, 4])[0], 3)

    def test_the_limits_are_reached(self):
        begun = time.monotonic()
        drawn = Drawn(262)
        top = 2 ** 20
        rows = [drawn.numbers(12, -top, top) for _ in range(5)] + [[2 * one for one in drawn.numbers(12, -top // 2, top // 2)]]
        rows += [[top] * 12, [top, -top] * 6, [0] * 11 + [top], [top] + [0] * 11, [(-3) ** at for at in range(12)]]
        for row in rows:
            value = shortest_whole(row)
            self.assertTrue(whole_judged(row, value))
            self.assertTrue(is_shortest_whole(row, value))
        self.assertLess(time.monotonic() - begun, 20)


if __name__ == "__main__":
    unittest.main()
