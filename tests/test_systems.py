"""What the promises [22] to [26] rest on: systems of sums, rows by a rule, and fractions, looked at by themselves."""

import itertools
import unittest
from fractions import Fraction

from wholesound.binaries import inverse, lowest, noughts, noughts_power, refusal, solution
from wholesound.quotients import divided, fraction, is_fraction, plus, times, weighed_up
from wholesound.recurrences import row_from, shares_on
from wholesound.wholes import whole_refusal, whole_solution

from tests.drawn import Drawn


def sums(rows, numbers):
    return [sum(factor * number for factor, number in zip(row, numbers)) for row in rows]


def columns(rows, factors, many):
    return [sum(factor * row[at] for factor, row in zip(factors, rows)) for at in range(many)]


def drawn_rows(drawn, depth, many):
    """Rows whose numbers often are even: so steps of all exponents come about."""
    factor = drawn.item([1, 2, 2, 4])
    return [[drawn.item([1, factor]) * drawn.below(2 ** depth) for _ in range(many)] for _ in range(drawn.below(4))]


class Binaries(unittest.TestCase):

    def systems(self, seed, times):
        drawn = Drawn(seed)
        for _ in range(times):
            depth, many = drawn.item([(1, 4), (2, 3), (3, 2), (4, 2), (2, 0), (5, 1)])
            rows = drawn_rows(drawn, depth, many)
            yield depth, many, rows, [drawn.item([1, 2]) * drawn.below(2 ** depth) for _ in rows]

    def test_solutions_and_refusals(self):
        seen = {}
        for depth, many, rows, wanted in self.systems(500, 600):
            unit = 2 ** depth
            fit = [numbers for numbers in itertools.product(range(unit), repeat=many)
                   if all((got - one) % unit == 0 for got, one in zip(sums(rows, numbers), wanted))]
            found, against = solution(rows, wanted, many, depth), refusal(rows, wanted, many, depth)
            seen[bool(fit)] = True
            if fit:
                self.assertIn(tuple(found), fit)
                self.assertIsNone(against)
            else:
                self.assertIsNone(found)
                self.assertTrue(all(got % unit == 0 for got in columns(rows, against, many)))
                self.assertNotEqual(sum(factor * one for factor, one in zip(against, wanted)) % unit, 0)
        self.assertEqual(len(seen), 2)

    def test_noughts_make_up_all_lists_of_sums_0(self):
        for depth, many, rows, _ in self.systems(501, 400):
            unit = 2 ** depth
            wanted = {numbers for numbers in itertools.product(range(unit), repeat=many)
                      if all(got % unit == 0 for got in sums(rows, numbers))}
            reached = {(0,) * many}
            for one in noughts(rows, many, depth):
                reached = {tuple((left + by * right) % unit for left, right in zip(begun, one))
                           for begun in reached for by in range(unit)}
            self.assertEqual(reached, wanted)
            self.assertEqual(2 ** noughts_power(rows, many, depth), len(wanted))

    def test_nothing_is_changed(self):
        rows, wanted = [[2, 4], [3, 1]], [6, 4]
        for function in (solution, refusal):
            function(rows, wanted, 2, 3)
        noughts(rows, 2, 3)
        noughts_power(rows, 2, 3)
        self.assertEqual((rows, wanted), ([[2, 4], [3, 1]], [6, 4]))

    def test_inverses_and_lowest_bits(self):
        for depth in range(1, 25):
            for odd in (1, 3, 5, 7, 2 ** depth - 1, 12345):
                self.assertEqual((odd * inverse(odd, depth) - 1) % 2 ** depth, 0)
        self.assertEqual([lowest(number) for number in (1, 2, 3, 12, 2 ** 23)], [0, 1, 0, 2, 23])


class Wholes(unittest.TestCase):

    def test_solutions_or_refusals(self):
        drawn = Drawn(502)
        seen = {}
        for _ in range(800):
            many, size = drawn.below(4), drawn.item([1, 2, 6, 1000])
            rows = [drawn.numbers(many, -size, size) for _ in range(drawn.below(5))]
            wanted = sums(rows, drawn.numbers(many, -3, 3))
            if drawn.below(2):
                wanted = [one + drawn.between(-1, 1) for one in wanted]
            found, against = whole_solution(rows, wanted, many), whole_refusal(rows, wanted, many)
            self.assertEqual(found is None, against is not None)
            seen[found is None] = True
            if found is not None:
                self.assertEqual((len(found), sums(rows, found)), (many, wanted))
                continue
            self.assertTrue(all(is_fraction(one) for one in against))
            factors = [Fraction(*one) for one in against]
            self.assertTrue(all(got.denominator == 1 for got in map(Fraction, columns(rows, factors, many))))
            self.assertNotEqual(Fraction(sum(factor * one for factor, one in zip(factors, wanted))).denominator, 1)
        self.assertEqual(len(seen), 2)


class Recurrences(unittest.TestCase):

    def test_shares_tell_each_place(self):
        drawn = Drawn(503)
        for _ in range(60):
            depth, many = drawn.between(1, 24), drawn.between(1, 8)
            weights, firsts = drawn.numbers(many, -2 ** 15, 2 ** 15), drawn.samples(many, depth)
            row = row_from(depth, weights, firsts, 60)
            for number in (0, 1, 2, 7, 8, 31, 59):
                shares = shares_on(depth, weights, number)
                self.assertEqual(len(shares), many)
                self.assertEqual(sum(share * one for share, one in zip(shares, row)) % 2 ** depth, row[number])


class Quotients(unittest.TestCase):

    def test_by_fractions(self):
        numbers = [(top, under) for top in range(-4, 5) for under in range(1, 5)]
        for top, under in numbers:
            told = fraction(top, under)
            self.assertEqual(told, (Fraction(top, under).numerator, Fraction(top, under).denominator))
            self.assertEqual(fraction(-top, -under), told)
            self.assertIs(is_fraction((top, under)), (top, under) == told)
            for other in numbers[::3]:
                one, two = Fraction(top, under), Fraction(*other)
                results = [(plus(told, fraction(*other)), one + two), (times(told, fraction(*other)), one * two)]
                if two:
                    results.append((divided(told, fraction(*other)), one / two))
                for got, wanted in results:
                    self.assertEqual(got, (wanted.numerator, wanted.denominator))
        self.assertEqual(weighed_up([(1, 2), (-1, 3)], [5, 3]), (3, 2))
        self.assertEqual(weighed_up([], []), (0, 1))


if __name__ == "__main__":
    unittest.main()
