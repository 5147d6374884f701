"""Promise [17]: the best guesser of one weight."""

import itertools
import time
import unittest

from wholesound.guessers import Guesser, plain_rests
from wholesound.mixers import Mixer
from wholesound.sounds import Sound
from wholesound.weights import best_weight, is_best_weight

from tests.drawn import Drawn
from tests.odd import things

TOP = 2 ** 15


def left_by(weight, shift, row):
    """What a weight leaves at each place from 1 on."""
    return [number - (weight * ahead >> shift) for ahead, number in zip(row, row[1:])]


def every_weight(tops):
    """All weights up to a top, at each shift of a list."""
    return [(weight, shift) for shift, top in enumerate(tops) for weight in range(-top, top + 1)]


# For numbers from -2 to 2 what a weight tells changes only at halves and whole quotients from -6 to 6,
# and none of these shifts leaves a stretch between them out.
FEW = every_weight([6, 12, 24, 48])


class BestWeight(unittest.TestCase):

    def judged(self, row, value, pool):
        """Whether a value is an answer, by looking at all weights of a pool."""
        bound, guesser, places = value
        left = [left_by(weight, shift, row) for weight, shift in pool]
        least = min(max([abs(rest) for rest in rests], default=0) for rests in left)
        if bound != least or guesser.order() != 1:
            return False
        if any(abs(rest) > bound for rest in left_by(guesser.weights()[0], guesser.shift(), row)):
            return False
        if bound == 0:
            return places is None
        return (len(places) in (1, 2) and sorted(set(places)) == places and places[0] >= 1 and places[-1] < len(row)
                and all(any(abs(rests[place - 1]) >= bound for place in places) for rests in left))

    def test_all_small_rows(self):
        for many in range(4):
            for numbers in itertools.product(range(-2, 3), repeat=many):
                row = list(numbers)
                told = best_weight(row)
                self.assertTrue(self.judged(row, told, FEW), (row, told))
                self.assertTrue(is_best_weight(row, told))

    def test_some_longer_rows(self):
        drawn = Drawn(170)
        for _ in range(80):
            row = drawn.numbers(drawn.between(4, 9), -2, 2)
            told = best_weight(row)
            self.assertTrue(self.judged(row, told, FEW), (row, told))

    def test_all_weights_where_their_bounds_count(self):
        pool = [(TOP, shift) for shift in range(16)] + [(-TOP, shift) for shift in range(16)]
        pool += [(weight, shift) for shift in range(16) for weight in range(-TOP, TOP + 1, 61)]
        for row in ([1, 100000], [1, -100000], [-1, 50000, 1], [1, 40000, 1], [7, 0, 9, -250000], [-1, -33000]):
            bound, guesser, places = best_weight(row)
            self.assertTrue(is_best_weight(row, (bound, guesser, places)))
            for weight, shift in pool:
                left = left_by(weight, shift, row)
                self.assertTrue(any(abs(left[place - 1]) >= bound for place in places))
        self.assertEqual(best_weight([1, 100000])[0], 100000 - TOP)
        self.assertEqual(best_weight([-1, 100000])[0], 100000 - TOP)
        self.assertEqual(best_weight([2, 100001])[0], 100001 - 2 * TOP)
        self.assertEqual(best_weight([0, -17])[::2], (17, [1]))

    def test_shifts_that_are_needed(self):
        for shift in range(16):
            row = [2 ** 16, 2 ** (16 - shift)]
            bound, guesser, _ = best_weight(row)
            self.assertEqual((bound, plain_rests(guesser, row)[1]), (0, 0))
        # 1 by 3 lies between all weights; the nearest ones leave something of great numbers.
        row = [3 * 10 ** 20, 10 ** 20]
        bound, guesser, places = best_weight(row)
        self.assertEqual(bound, min(abs(10 ** 20 - (weight * row[0] >> 15)) for weight in (10922, 10923)))
        self.assertEqual(places, [1])

    def test_rows_without_rests(self):
        for row in ([], [0], [5], [-10 ** 29]):
            bound, guesser, places = best_weight(row)
            self.assertEqual((bound, guesser.order(), places), (0, 1, None))
            self.assertTrue(is_best_weight(row, (0, Guesser([-3], 2), None)))
            self.assertFalse(is_best_weight(row, (1, Guesser([-3], 2), None)))
            self.assertFalse(is_best_weight(row, (1, Guesser([-3], 2), [1])))
            self.assertFalse(is_best_weight(row, (1, Guesser([-3], 2), [])))
            self.assertFalse(is_best_weight(row, (0, Guesser([-3], 2), [])))
            self.assertFalse(is_best_weight(row, (0, Guesser([], 2), None)))
            self.assertFalse(is_best_weight(row, (0, Guesser([1, 0], 2), None)))

    def test_what_is_told_is_judged_right_and_bent_wrong(self):
        drawn = Drawn(171)
        for _ in range(40):
            row = drawn.numbers(drawn.between(2, 6), -2, 2)
            bound, guesser, places = best_weight(row)
            bent = [(bound + 1, guesser, places), (bound - 1, guesser, places), (bound, guesser, None),
                    (bound, guesser, []), (bound + 1, guesser, places or [1])]
            bent += [(bound, Guesser([weight], shift), places) for weight in range(-5, 6) for shift in (0, 1)]
            bent += [(bound, guesser, [place]) for place in range(-1, len(row) + 1)]
            bent += [(bound, guesser, [one, two]) for one in range(-1, len(row) + 1) for two in range(-1, len(row) + 1)]
            for value in bent:
                wanted = value[2] != [] and (value[2] is None) == (bound == 0) and self.judged(row, value, FEW)
                self.assertIs(is_best_weight(row, value), wanted, (row, value))

    def test_any_odd_value_is_none(self):
        row, good = [1, 2, 1], (1, Guesser([1], 0), [1, 2])
        self.assertIs(is_best_weight(row, good), True)
        bent = things() + [list(good), good[:2], good + (None,), (True,) + good[1:], (1, Guesser([1], 0), (1, 2)),
                           (1, Guesser([1], 0), [True, 2]), (1, Guesser([1], 0), [1, 2, 2]), (1, Guesser([1], 0), [2, 1]),
                           (1, Guesser([1], 0), [1, 1]), (1, Guesser([1], 0), ["1", 2]), (1, [1], [1, 2]),
                           (1, None, [1, 2]), ("1",) + good[1:], (None,) + good[1:], (1, Sound(1, [[]]), [1, 2]),
                           (1, Mixer(1, []), [1, 2]), (1, Guesser([1], 0), {1: 2}), (1, Guesser([1], 0), [[1], 2]),
                           (10 ** 40,) + good[1:], (-1,) + good[1:], ([1],) + good[1:], (1, Guesser([1], 0), [1, 2, 3])]
        for value in bent:
            self.assertIs(is_best_weight(row, value), False, value)
        self.assertIs(is_best_weight([0, 0], (False, Guesser([1], 0), None)), False)

    def test_the_limits_are_reached(self):
        begun = time.monotonic()
        drawn = Drawn(172)
        for size in (10, 10 ** 5, 10 ** 30 - 1):
            row = drawn.numbers(60, -size, size)
            told = best_weight(row)
            self.assertTrue(is_best_weight(row, told))
            self.assertEqual(told[0], max(abs(rest) for rest in plain_rests(told[1], row)[1:]))
            for place in told[2]:
                self.assertFalse(is_best_weight(row, (told[0] - 1, told[1], [place])))
        self.assertLess(time.monotonic() - begun, 20)


if __name__ == "__main__":
    unittest.main()
