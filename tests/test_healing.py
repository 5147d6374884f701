"""Promise [18]: what one rest spoils."""

import itertools
import time
import unittest

from wholesound.errors import InvalidGuesser, InvalidNumber
from wholesound.guessers import Guesser, row_of, steps
from wholesound.healing import healed_at, most_spoilt, spoilt, spoilt_by_bit
from wholesound.sounds import fold, unfold, wrap

from tests.drawn import Drawn

TOP = 2 ** 15


def small(orders, weights):
    for order in orders:
        for chosen in itertools.product(weights, repeat=order):
            yield Guesser(list(chosen), 0)


def change_by_words(guesser, depth, rests, place, change):
    """The places and what is added there, by leading both rows of rests back."""
    other = list(rests)
    other[place] = wrap(other[place] + change, depth)
    pairs = zip(row_of(guesser, depth, rests), row_of(guesser, depth, other))
    added = [(at, wrap(two - one, depth)) for at, (one, two) in enumerate(pairs)]
    return [(at, by) for at, by in added if by]


class Spoilt(unittest.TestCase):

    def test_all_small_rows(self):
        for guesser in small(range(3), range(-1, 3)):
            for depth, many in ((1, 4), (2, 3)):
                samples = range(-2 ** (depth - 1), 2 ** (depth - 1))
                for rests in itertools.product(samples, repeat=many):
                    for place in range(many):
                        for change in range(-2, 5):
                            wanted = change_by_words(guesser, depth, list(rests), place, change)
                            self.assertEqual(spoilt(guesser, depth, place, change, many), wanted)

    def test_drawn_rows(self):
        drawn = Drawn(180)
        for _ in range(200):
            guesser, depth = Guesser(drawn.numbers(drawn.below(9), -TOP, TOP), 0), drawn.between(1, 32)
            many = drawn.between(1, 60)
            place, change = drawn.below(many), drawn.between(-10 ** 29, 10 ** 29)
            wanted = change_by_words(guesser, depth, drawn.samples(many, depth), place, change)
            self.assertEqual(spoilt(guesser, depth, place, change, many), wanted)

    def test_a_bit_of_a_fold_in_all_small_rows(self):
        for guesser in small(range(3), range(-1, 3)):
            for depth, many in ((1, 4), (2, 4), (3, 3)):
                samples = range(-2 ** (depth - 1), 2 ** (depth - 1))
                for rests in itertools.product(samples, repeat=many):
                    for place in range(many):
                        for bit in range(depth):
                            self.check_bit(guesser, depth, list(rests), place, bit)

    def test_a_bit_of_a_fold_in_drawn_rows(self):
        drawn = Drawn(181)
        for _ in range(200):
            guesser, depth = Guesser(drawn.numbers(drawn.below(9), -TOP, TOP), 0), drawn.between(1, 32)
            many = drawn.between(1, 40)
            self.check_bit(guesser, depth, drawn.samples(many, depth), drawn.below(many), drawn.below(depth))

    def check_bit(self, guesser, depth, rests, place, bit):
        turned = unfold(fold(rests[place]) ^ 1 << bit)
        wanted = change_by_words(guesser, depth, rests, place, turned - rests[place])
        told = spoilt_by_bit(guesser, depth, place, bit, len(rests))
        self.assertEqual(told, [at for at, _ in wanted])

    def test_many_is_greater_than_the_place(self):
        for many in (3, 2, 0, -1, True, None, "4"):
            with self.assertRaises(InvalidNumber) as caught:
                spoilt(steps(1), 4, 3, 1, many)
            self.assertIs(caught.exception.value, many)
            with self.assertRaises(InvalidNumber) as caught:
                spoilt_by_bit(steps(1), 4, 3, 1, many)
            self.assertIs(caught.exception.value, many)
        self.assertEqual(spoilt(steps(1), 4, 3, 1, 4), [(3, 1)])
        self.assertEqual(spoilt_by_bit(steps(1), 4, 3, 1, 4), [3])

    def test_bits_of_the_depth(self):
        for depth in (1, 7, 32):
            self.assertEqual(spoilt_by_bit(steps(0), depth, 0, depth - 1, 1), [0])
            with self.assertRaises(InvalidNumber) as caught:
                spoilt_by_bit(steps(0), depth, 0, depth, 0)
            self.assertEqual(caught.exception.value, depth)

    def test_guessers_with_a_shift_are_refused(self):
        bad = Guesser([2], 1)
        for call in (lambda: spoilt(bad, 0, -1, None, None), lambda: spoilt_by_bit(bad, 0, -1, None, None),
                     lambda: healed_at(bad, 0, -1, None), lambda: most_spoilt(bad, 0)):
            with self.assertRaises(InvalidGuesser) as caught:
                call()
            self.assertIs(caught.exception.value, bad)


class Healed(unittest.TestCase):

    def healed_by_words(self, guesser, depth, place, change):
        """What is added, looked at until the last samples all are 0, or are what they were at some time."""
        order = guesser.order()
        many = max(place + 1, order)
        added = [0] * many
        for at, by in spoilt(guesser, depth, place, change, many):
            added[at] = by
        seen = set()
        while any(added[len(added) - order:]) and order:
            state = tuple(added[-order:])
            if state in seen:
                return None
            seen.add(state)
            told = sum(weight * added[-1 - ahead] for ahead, weight in enumerate(guesser.weights()))
            added.append(wrap(told, depth))
        return max([at + 1 for at, by in enumerate(added) if by], default=0)

    def test_all_small_guessers(self):
        for guesser in small(range(4), [-2, -1, 0, 1, 2, 4]):
            for depth in (1, 2, 3):
                for place in range(guesser.order() + 2):
                    for change in (0, 1, 2, 3, 4):
                        wanted = self.healed_by_words(guesser, depth, place, change)
                        self.assertEqual(healed_at(guesser, depth, place, change), wanted)

    def test_the_slowest_heal(self):
        # The weight 2 doubles, so that all bits of a depth go one by one; eight places behind takes eight times as long.
        for depth in range(1, 33):
            self.assertEqual(healed_at(Guesser([2], 0), depth, 1, 1), 1 + depth)
            self.assertEqual(healed_at(Guesser([2], 0), depth, 1, 2), depth if depth > 1 else 0)
            self.assertEqual(most_spoilt(Guesser([2], 0), depth), depth)
            last = Guesser([0] * 7 + [2], 0)
            self.assertEqual(most_spoilt(last, depth), 8 * depth - 7)
            self.assertEqual(healed_at(last, depth, 7, -1), 8 * depth)
            self.assertIsNone(healed_at(Guesser([1] * 7 + [2], 0), depth, 3, -1))

    def test_drawn_guessers(self):
        drawn = Drawn(182)
        for _ in range(200):
            order, depth = drawn.below(9), drawn.between(1, 32)
            weights = [2 * drawn.between(-TOP // 2, TOP // 2) for _ in range(order)]
            place, change = drawn.below(20), drawn.between(-10 ** 9, 10 ** 9)
            guesser = Guesser(weights, 0)
            wanted = self.healed_by_words(guesser, depth, place, change)
            self.assertIsNotNone(wanted)
            self.assertEqual(healed_at(guesser, depth, place, change), wanted)

    def test_no_change_heals_at_once(self):
        for depth in (1, 4, 32):
            for change in (0, 2 ** depth, -3 * 2 ** depth):
                self.assertEqual(healed_at(steps(2), depth, 7, change), 0)
                self.assertEqual(spoilt(steps(2), depth, 7, change, 20), [])

    def test_rows_heal_behind_the_firsts_exactly_if_all_weights_are_even(self):
        for guesser in small(range(4), range(-2, 3)):
            even = all(weight % 2 == 0 for weight in guesser.weights())
            for depth in (1, 2, 5):
                self.assertEqual(most_spoilt(guesser, depth) is not None, even)

    def test_most_spoilt_over_all_changes_and_places(self):
        for guesser in small(range(4), [-2, -1, 0, 1, 2, 4]):
            order = guesser.order()
            for depth in (1, 2, 3):
                wanted = []
                for place in (order, order + 1, order + 5):
                    for change in range(1, 2 ** depth):
                        healed = self.healed_by_words(guesser, depth, place, change)
                        wanted.append(None if healed is None else healed - place)
                told = most_spoilt(guesser, depth)
                self.assertEqual(told, None if None in wanted else max(wanted))

    def test_the_limits_are_reached(self):
        begun = time.monotonic()
        for weights in ([TOP] * 8, [-TOP] * 8, [TOP - 1] * 8, [2] * 8):
            guesser = Guesser(weights, 0)
            for place in (0, 500, 999):
                told = spoilt(guesser, 32, place, 10 ** 30 - 1, 1000)
                self.assertEqual(told, change_by_words(guesser, 32, [5] * 1000, place, 10 ** 30 - 1))
                self.assertEqual(spoilt_by_bit(guesser, 32, place, 0, 1000),
                                 [at for at, _ in change_by_words(guesser, 32, [5] * 1000, place, 1)])
                healed_at(guesser, 32, place, 10 ** 30 - 1)
            most_spoilt(guesser, 32)
        self.assertLess(time.monotonic() - begun, 20)


if __name__ == "__main__":
    unittest.main()
