"""Promises [10] to [16]: guessers."""

import itertools
import unittest
from fractions import Fraction
from math import comb

from wholesound.errors import InvalidGuesser, InvalidItem, InvalidList, InvalidNumber, InvalidRow
from wholesound.guessers import (
    Guesser, after, bits_enough, bound_rows, bounds, guess, hangs, leads_to, normal, parting_rests, parting_row,
    plain_rests, rests, row_of, same_guess, same_rests, steps, tells)
from wholesound.mixers import Mixer
from wholesound.sounds import Sound

from tests.drawn import Drawn
from tests.odd import things

TOP = 2 ** 15


def all_samples(depth):
    return range(-2 ** (depth - 1), 2 ** (depth - 1))


def all_rows(depth, most):
    for many in range(most + 1):
        for row in itertools.product(all_samples(depth), repeat=many):
            yield list(row)


def guess_by_words(weights, shift, before):
    total = Fraction(0)
    for at, weight in enumerate(weights):
        total += weight * before[len(before) - 1 - at]
    return (total / 2 ** shift).__floor__()


def wrap_by_words(number, depth):
    return (number + 2 ** (depth - 1)) % 2 ** depth - 2 ** (depth - 1)


def plain_by_words(guesser, row):
    order = guesser.order()
    return row[:order] + [row[at] - guess_by_words(guesser.weights(), guesser.shift(), row[:at])
                          for at in range(order, len(row))]


def rests_by_words(guesser, depth, row):
    return [wrap_by_words(rest, depth) for rest in plain_by_words(guesser, row)]


SOME = [Guesser([], 0), Guesser([], 15), Guesser([1], 0), Guesser([-1], 0), Guesser([3], 1), Guesser([TOP], 15),
        Guesser([2, -1], 0), Guesser([0, 0], 3), Guesser([5, -3], 2), Guesser([-TOP, TOP], 0), Guesser([1, 0, 1], 1),
        Guesser([3, -3, 1], 0), Guesser([7, 7, -1], 4)]


def drawn_guesser(drawn, order, shift=None):
    return Guesser(drawn.numbers(order, -TOP, TOP), drawn.below(16) if shift is None else shift)


class Guessers(unittest.TestCase):

    def test_tells_what_it_was_made_of(self):
        for weights in ([], [0], [TOP], [-TOP, TOP], [1, 0], [0] * 8, list(range(8))):
            for shift in (0, 1, 15):
                guesser = Guesser(weights, shift)
                told = (guesser.weights(), guesser.shift(), guesser.order())
                self.assertEqual(told, (weights, shift, len(weights)))

    def test_weights_are_copied_in_and_out(self):
        weights = [1, 2]
        guesser = Guesser(weights, 0)
        weights.append(3)
        guesser.weights().append(4)
        self.assertEqual((guesser.weights(), guesser.order()), ([1, 2], 2))

    def test_bounds_of_weights_and_shift(self):
        for weights, told in (([TOP + 1], TOP + 1), ([0, -TOP - 1, None], -TOP - 1), ([True, TOP + 1], True)):
            with self.assertRaises(InvalidItem) as caught:
                Guesser(weights, None)
            self.assertEqual(repr(caught.exception.value), repr(told))
        for shift in (-1, 16, True, None, "0"):
            with self.assertRaises(InvalidNumber) as caught:
                Guesser([], shift)
            self.assertIs(caught.exception.value, shift)
        nine = [TOP + 1] * 9
        with self.assertRaises(InvalidList) as caught:
            Guesser(nine, 0)
        self.assertIs(caught.exception.value, nine)

    def test_equality(self):
        guesser = Guesser([2, 4], 1)
        self.assertTrue(guesser == Guesser([2, 4], 1))
        self.assertFalse(guesser != Guesser([2, 4], 1))
        others = [Guesser([2, 4], 0), Guesser([4, 2], 1), Guesser([1, 2], 0), Guesser([2, 4, 0], 1), Guesser([2], 1)]
        for other in others + things() + [[2, 4], ([2, 4], 1), Sound(4, [[2, 4]]), Mixer(1, [])]:
            self.assertFalse(guesser == other)
            self.assertFalse(other == guesser)
            self.assertTrue(guesser != other)

    def test_guess_by_its_words(self):
        drawn = Drawn(10)
        for order in range(9):
            for shift in (0, 1, 7, 15):
                guesser = drawn_guesser(drawn, order, shift)
                for more in (0, 1, 5):
                    for size in (3, 10 ** 6, 10 ** 30 - 1):
                        before = drawn.numbers(order + more, -size, size)
                        wanted = guess_by_words(guesser.weights(), shift, before)
                        self.assertEqual(guess(guesser, before), wanted)
                if order:
                    with self.assertRaises(InvalidRow):
                        guess(guesser, drawn.numbers(order - 1, -9, 9))

    def test_steps_take_differences_of_neighbours(self):
        drawn = Drawn(11)
        for order in range(9):
            guesser = steps(order)
            weights = [(-1) ** (at + 1) * comb(order, at) for at in range(1, order + 1)]
            self.assertEqual((guesser.weights(), guesser.shift()), (weights, 0))
            row = drawn.numbers(30, -10 ** 9, 10 ** 9)
            differences = row
            for _ in range(order):
                differences = [two - one for one, two in zip(differences, differences[1:])]
            self.assertEqual(plain_rests(guesser, row)[order:], differences)


class Rests(unittest.TestCase):

    def test_all_small_rows(self):
        for guesser in SOME:
            for depth, most in ((1, 5), (2, 4), (3, 3)):
                for row in all_rows(depth, most):
                    told = rests(guesser, depth, row)
                    self.assertEqual(told, rests_by_words(guesser, depth, row))
                    self.assertEqual(row_of(guesser, depth, told), row)
                    self.assertEqual(rests(guesser, depth, row_of(guesser, depth, row)), row)

    def test_drawn_rows_at_all_depths(self):
        drawn = Drawn(12)
        for depth in range(1, 33):
            guesser = drawn_guesser(drawn, depth % 9)
            row = drawn.samples(200, depth)
            told = rests(guesser, depth, row)
            self.assertEqual(told, rests_by_words(guesser, depth, row))
            self.assertEqual(row_of(guesser, depth, told), row)
            self.assertEqual(rests(guesser, depth, row_of(guesser, depth, row)), row)

    def test_rows_up_to_the_order_are_firsts(self):
        for order in range(9):
            guesser = Guesser([TOP] * order, 3)
            for many in range(order + 1):
                row = list(range(many))
                self.assertEqual(rests(guesser, 5, row), row)
                self.assertEqual(row_of(guesser, 5, row), row)
                self.assertEqual(plain_rests(guesser, row), row)

    def test_plain_rests(self):
        drawn = Drawn(13)
        for order in range(9):
            guesser = drawn_guesser(drawn, order)
            for size in (5, 10 ** 30 - 1):
                row = drawn.numbers(40, -size, size)
                self.assertEqual(plain_rests(guesser, row), plain_by_words(guesser, row))

    def test_results_are_new_lists(self):
        row = [1, 2]
        for told in (rests(steps(3), 4, row), row_of(steps(3), 4, row), plain_rests(steps(3), row),
                     rests(steps(0), 4, row), plain_rests(steps(0), row)):
            self.assertIsNot(told, row)


class Alike(unittest.TestCase):

    def small(self):
        for shift in (0, 1, 2):
            for weights in ([], [0], [1], [2], [-1], [3], [4], [0, 0], [1, 0], [2, 0], [0, 1], [2, -1], [4, -2], [4, 2]):
                yield Guesser(weights, shift)

    def parting(self, one, other):
        """By the words of [13], looking at all lists with one number; None far out."""
        order = max(one.order(), other.order())
        for size in range(1, 20):
            for at in reversed(range(order)):
                for number in (size, -size):
                    row = [0] * order
                    row[at] = number
                    if guess(one, row) != guess(other, row):
                        return row
        return None

    def test_all_small_pairs(self):
        for one in self.small():
            for other in self.small():
                wanted = self.parting(one, other)
                self.assertEqual(same_guess(one, other), wanted is None)
                self.assertEqual(parting_row(one, other), wanted)

    def test_guessers_that_are_alike_guess_alike_behind_all_lists(self):
        for one in self.small():
            for other in self.small():
                order = max(one.order(), other.order())
                rows = itertools.product(range(-3, 4), repeat=order)
                alike = all(guess(one, list(row)) == guess(other, list(row)) for row in rows)
                if same_guess(one, other):
                    self.assertTrue(alike)

    def test_parting_rows_of_neighbours(self):
        # Between these quotients there is no fraction with a small `under`.
        for left, right in (((TOP, 15), (TOP - 1, 15)), ((1, 15), (0, 0)), ((-1, 15), (0, 3)), ((16385, 15), (1, 1)),
                            ((16383, 15), (1, 1)), ((10922, 15), (10923, 15)), ((10923, 15), (21845, 15))):
            one, other = Guesser([0, left[0]], left[1]), Guesser([0, right[0]], right[1])
            low, high = sorted([Fraction(left[0], 2 ** left[1]), Fraction(right[0], 2 ** right[1])])
            under = 1
            while (high * under).__floor__() < low * under:
                under += 1
            sign = 1 if (high * under).__floor__() > low * under or (high * under).__floor__() != (low * under).__floor__() \
                else -1
            self.assertEqual(parting_row(one, other), [sign * under, 0])
            self.assertEqual(parting_row(other, one), [sign * under, 0])
            row = parting_row(one, other)
            self.assertNotEqual(guess(one, row), guess(other, row))

    def test_parting_rows_stand_nearest_to_the_end(self):
        self.assertEqual(parting_row(Guesser([1, 1, 1], 0), Guesser([1, 2, 2], 0)), [0, 1, 0])
        self.assertEqual(parting_row(Guesser([1, 1, 1], 1), Guesser([1, 1, 3, 0], 1)), [0, 1, 0, 0])
        self.assertEqual(parting_row(Guesser([1, 1], 1), Guesser([1], 1)), [-1, 0])
        self.assertEqual(parting_row(Guesser([1], 1), Guesser([2], 1)), [1])
        self.assertEqual(parting_row(Guesser([4, 3], 2), Guesser([5, 6], 2)), [0, -1])
        self.assertEqual(parting_row(Guesser([5, 3], 2), Guesser([6, 4], 2)), [1, 0])
        self.assertEqual(parting_row(Guesser([9, 9], 3), Guesser([10, 11], 3)), [3, 0])
        self.assertIsNone(parting_row(Guesser([], 0), Guesser([0, 0], 15)))

    def test_parting_rows_of_drawn_guessers(self):
        drawn = Drawn(14)
        for _ in range(60):
            order, shift = drawn.between(1, 4), drawn.between(0, 15)
            one = drawn_guesser(drawn, order, shift)
            more = [weight + drawn.between(-1, 1) for weight in one.weights()]
            other = Guesser([max(-TOP, min(TOP, weight)) for weight in more], shift)
            row = parting_row(one, other)
            if row is None:
                self.assertEqual(one.weights(), other.weights())
                continue
            self.assertNotEqual(guess(one, row), guess(other, row))
            at = [place for place, number in enumerate(row) if number][0]
            for size in range(1, min(abs(row[at]), 60)):
                for place in range(order):
                    for number in (size, -size):
                        less = [0] * order
                        less[place] = number
                        self.assertEqual(guess(one, less), guess(other, less))

    def test_normal_is_the_least_that_guesses_alike(self):
        for one in self.small():
            told = normal(one)
            self.assertTrue(same_guess(one, told))
            self.assertTrue(told.order() == 0 or told.weights()[-1] != 0)
            for other in self.small():
                if same_guess(one, other):
                    self.assertTrue(normal(other) == told)
                    if other.order() == 0 or other.weights()[-1] != 0:
                        self.assertTrue(other.shift() >= told.shift() and other.order() == told.order())

    def test_normal_of_some(self):
        for (weights, shift), wanted in ((([], 15), ([], 0)), (([0, 0], 3), ([], 0)), (([6, 0], 2), ([3], 1)),
                                         (([TOP, -TOP], 15), ([1, -1], 0)), (([4, 8], 1), ([2, 4], 0)),
                                         (([4, 8], 0), ([4, 8], 0)), (([0, 2, 0, 0], 1), ([0, 1], 0)),
                                         (([3, 2], 5), ([3, 2], 5)), (([0, 0, 0, 0, 0, 0, 0, -TOP], 14), ([0] * 7 + [-2], 0))):
            guesser = normal(Guesser(weights, shift))
            self.assertEqual((guesser.weights(), guesser.shift()), wanted)


class Bounds(unittest.TestCase):

    def test_over_all_rows(self):
        for guesser in SOME:
            order = guesser.order()
            for depth in (1, 2, 3):
                if order == 3 and depth == 3:
                    continue
                rows = [list(row) for row in itertools.product(all_samples(depth), repeat=order + 1)]
                left = [plain_by_words(guesser, row)[-1] for row in rows]
                self.assertEqual(bounds(guesser, depth), (min(left), max(left)))
                self.check_rows(guesser, depth, min(left), max(left))

    def check_rows(self, guesser, depth, least, greatest):
        told = bound_rows(guesser, depth)
        self.assertIs(type(told), tuple)
        for row, wanted in zip(told, (least, greatest), strict=True):
            self.assertEqual(len(row), guesser.order() + 1)
            self.assertTrue(all(sample in all_samples(depth) for sample in row))
            self.assertEqual(plain_by_words(guesser, row)[-1], wanted)

    def test_great_ones(self):
        drawn = Drawn(15)
        for depth in (1, 24, 31, 32):
            for order in range(9):
                for weights in ([TOP] * order, [-TOP] * order, drawn.numbers(order, -TOP, TOP)):
                    for shift in (0, 15):
                        guesser = Guesser(weights, shift)
                        low, high = -2 ** (depth - 1), 2 ** (depth - 1) - 1
                        ends = [(weight * low, weight * high) for weight in weights]
                        least = low - sum(max(end) for end in ends) // 2 ** shift
                        greatest = high - sum(min(end) for end in ends) // 2 ** shift
                        self.assertEqual(bounds(guesser, depth), (least, greatest))
                        self.check_rows(guesser, depth, least, greatest)
                        self.check_bits(guesser, depth, least, greatest)

    def check_bits(self, guesser, depth, least, greatest):
        enough = bits_enough(guesser, depth)
        fits = [-2 ** (bits - 1) <= least and greatest <= 2 ** (bits - 1) - 1 for bits in range(1, enough + 1)]
        self.assertEqual(fits, [False] * (enough - 1) + [True])

    def test_bits_enough_without_weights_is_the_depth(self):
        for depth in range(1, 33):
            self.assertEqual(bits_enough(Guesser([], 4), depth), depth)
            self.assertEqual(bits_enough(Guesser([0, 0], 0), depth), depth)
            for order in range(1, 9):
                self.assertEqual(bits_enough(steps(order), depth), depth + order)


class Rules(unittest.TestCase):

    def small(self):
        for order in range(3):
            for weights in itertools.product(range(-2, 3), repeat=order):
                yield Guesser(list(weights), 0)

    def left(self, guesser, row):
        return plain_by_words(guesser, row)[guesser.order():]

    def test_after_leaves_the_same(self):
        drawn = Drawn(16)
        for _ in range(150):
            one, other = (drawn_guesser(drawn, drawn.below(9), 0) for _ in range(2))
            weights = after(one, other)
            self.assertEqual(len(weights), one.order() + other.order())
            row = drawn.numbers(len(weights) + 6, -10 ** 6, 10 ** 6)
            wanted = self.left(other, self.left(one, row))
            got = [row[at] - sum(weight * row[at - 1 - ahead] for ahead, weight in enumerate(weights))
                   for at in range(len(weights), len(row))]
            self.assertEqual(got, wanted)

    def test_after_of_all_small_ones(self):
        row = [1, 0, 0, 0, 0, 0, 7, -3, 2, 2, 5]
        for one in self.small():
            for other in self.small():
                weights = after(one, other)
                wanted = self.left(other, self.left(one, row))
                self.assertEqual(self.left(Guesser(weights, 0), row), wanted)
                self.assertEqual(leads_to(one, Guesser(weights, 0)), other.weights())
                self.assertEqual(leads_to(other, Guesser(weights, 0)), one.weights())

    def test_leads_to_by_looking_at_all_third_rules(self):
        thirds = {order: [list(weights) for weights in itertools.product(range(-6, 7), repeat=order)] for order in range(3)}
        for one in self.small():
            for other in self.small():
                more = other.order() - one.order()
                found = [third for third in thirds.get(more, []) if after(one, Guesser(third, 0)) == other.weights()]
                told = leads_to(one, other)
                if told is None:
                    self.assertEqual(found, [])
                else:
                    self.assertEqual(found, [told])

    def test_leads_to_of_great_ones(self):
        for order in range(9):
            for more in range(order + 1):
                self.assertEqual(leads_to(steps(more), steps(order)), steps(order - more).weights())
                if more < order:
                    self.assertIsNone(leads_to(steps(order), steps(more)))
        self.assertEqual(leads_to(Guesser([1], 0), Guesser([TOP, -TOP + 1], 0)), [TOP - 1])
        self.assertIsNone(leads_to(Guesser([TOP], 0), Guesser([0] * 8, 0)))
        self.assertIsNone(leads_to(Guesser([2], 0), Guesser([2, 1], 0)))
        self.assertEqual(leads_to(Guesser([], 0), Guesser([5, 6], 0)), [5, 6])
        self.assertEqual(leads_to(Guesser([5, 6], 0), Guesser([5, 6], 0)), [])
        self.assertIsNone(leads_to(Guesser([1, 0], 0), Guesser([1], 0)))
        self.assertEqual(leads_to(Guesser([1], 0), Guesser([1, 0], 0)), [0])

    def test_the_first_one_with_a_shift_is_told(self):
        one, two = Guesser([1], 1), Guesser([1], 2)
        for function in (after, leads_to):
            for first, second, told in ((one, two, one), (steps(1), two, two), (one, steps(1), one), (one, None, one)):
                with self.assertRaises(InvalidGuesser) as caught:
                    function(first, second)
                self.assertIs(caught.exception.value, told)
        for first, second, told in ((one, two, one), (steps(1), two, two)):
            for function in (same_rests, parting_rests):
                with self.assertRaises(InvalidGuesser) as caught:
                    function(first, second, 0)
                self.assertIs(caught.exception.value, told)

    def test_same_rests_over_all_rows(self):
        pool = [Guesser(list(weights), 0) for order in range(3)
                for weights in itertools.product([-4, -1, 0, 1, 2, 4, 5], repeat=order) if len(set(weights)) > 1 or order < 2]
        for depth, most in ((1, 4), (2, 4)):
            rows = list(all_rows(depth, most))
            told = [[rests_by_words(guesser, depth, row) for row in rows] for guesser in pool]
            for one, left in zip(pool, told):
                for other, right in zip(pool, told):
                    self.assertEqual(same_rests(one, other, depth), left == right)
                    self.check_parting(one, other, depth, left == right)

    def check_parting(self, one, other, depth, alike):
        row = parting_rests(one, other, depth)
        if alike:
            self.assertIsNone(row)
        else:
            self.assertTrue(all(sample in all_samples(depth) for sample in row))
            self.assertNotEqual(rests_by_words(one, depth, row), rests_by_words(other, depth, row))

    def test_same_rests_by_the_rule_of_the_document(self):
        drawn = Drawn(17)
        for depth in (1, 3, 14, 15, 16, 17, 32):
            for _ in range(30):
                order = drawn.below(9)
                weights = [drawn.item([0, 1, -2 ** 14, 2 ** 14, TOP, -TOP, 2, 8]) for _ in range(order)]
                others = [drawn.item([weight, weight, -weight, 0]) for weight in weights]
                others += [drawn.item([0, TOP])] * (drawn.below(3) == 0 and order < 8)
                multiples = all(weight % 2 ** depth == 0 for weight in weights + others)
                agree = all((left - right) % 2 ** depth == 0 for left, right in zip(weights, others))
                alike = multiples or (len(weights) == len(others) and agree)
                one, other = Guesser(weights, 0), Guesser(others, 0)
                self.assertEqual(same_rests(one, other, depth), alike)
                self.assertEqual(same_rests(other, one, depth), alike)
                self.check_parting(one, other, depth, alike)
                self.check_parting(other, one, depth, alike)


class Hanging(unittest.TestCase):

    def test_tells_by_its_words(self):
        for guesser in SOME:
            for row in all_rows(2, 4):
                wanted = not any(plain_by_words(guesser, row)[guesser.order():])
                self.assertIs(tells(guesser, row), wanted)

    def test_tells_of_rows_that_are_told(self):
        drawn = Drawn(18)
        for order in range(9):
            for shift in (0, 4, 15):
                guesser = drawn_guesser(drawn, order, shift)
                row = drawn.numbers(order, -10 ** 9, 10 ** 9)
                for _ in range(12):
                    row.append(guess(guesser, row))
                self.assertIs(tells(guesser, row), True)
                for at in range(order, len(row)):
                    bent = list(row)
                    bent[at] += 1
                    self.assertIs(tells(guesser, bent), False)

    def hangs_by_words(self, guesser, depth, row, place):
        left = plain_by_words(guesser, row)
        found = set()
        for sample in all_samples(depth):
            other = plain_by_words(guesser, row[:place] + [sample] + row[place + 1:])
            found |= {at for at in range(len(row)) if other[at] != left[at]}
        return sorted(found)

    def test_hangs_over_all_small_rows(self):
        pool = SOME + [Guesser([1], 3), Guesser([1, 2], 2), Guesser([-1, 3], 3), Guesser([0, 1], 0), Guesser([1, 0, 2], 2)]
        for guesser in pool:
            for depth, most in ((1, 5), (2, 4), (3, 3)):
                for row in all_rows(depth, most):
                    for place in range(len(row)):
                        wanted = self.hangs_by_words(guesser, depth, row, place)
                        self.assertEqual(hangs(guesser, depth, row, place), wanted)

    def test_hangs_of_drawn_rows(self):
        drawn = Drawn(19)
        for _ in range(150):
            order, depth = drawn.below(9), drawn.between(4, 6)
            guesser = Guesser(drawn.numbers(order, -6, 6), drawn.between(0, 9))
            row = drawn.samples(drawn.between(1, 14), depth)
            place = drawn.below(len(row))
            self.assertEqual(hangs(guesser, depth, row, place), self.hangs_by_words(guesser, depth, row, place))

    def test_hangs_at_great_depths(self):
        row = [0, 1, -1, 2 ** 31 - 1, -2 ** 31, 5]
        self.assertEqual(hangs(Guesser([1, 0, 0, 1], 15), 32, row, 0), [0, 4])
        self.assertEqual(hangs(Guesser([1, 0, 0, 1], 15), 32, row, 4), [4, 5])
        self.assertEqual(hangs(Guesser([1, 0, 0, 1], 15), 32, row, 5), [5])
        self.assertEqual(hangs(Guesser([TOP] * 8, 0), 32, row, 3), [3])
        self.assertEqual(hangs(Guesser([1], 15), 16, [0, 0], 0), [0, 1])
        self.assertEqual(hangs(Guesser([1], 15), 15, [-1, 0], 0), [0, 1])
        self.assertEqual(hangs(Guesser([TOP], 0), 1, [-1, 0, 0], 1), [1, 2])

    def test_place_is_one_of_the_row(self):
        for place in (5, 6, -1, True, None):
            with self.assertRaises(InvalidNumber) as caught:
                hangs(steps(1), 4, [1, 2, 3, 4, 5], place)
            self.assertIs(caught.exception.value, place)
        self.assertRaises(InvalidNumber, hangs, steps(1), 4, [], 0)


if __name__ == "__main__":
    unittest.main()
