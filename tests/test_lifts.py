"""Promise [37]: the fewest lifts of a matrix, and mixers that come back."""

import itertools
import time
import unittest

from wholesound.errors import InvalidMatrix, InvalidMixer
from wholesound.lifts import comes_back, fewest_lifts, lifts_for
from wholesound.mixers import Mixer, halvings, matrix, mixed

from tests.drawn import Drawn
from tests.test_mixers import drawn_mixer

TOP = 2 ** 15


def made(numbers, weight):
    """The matrices one lift away."""
    (a, b), (c, d) = numbers
    return [((a + weight * c, b + weight * d), (c, d)), ((a, b), (c + weight * a, d + weight * b))]


def distances(bound, far):
    """How many lifts lead to each matrix with numbers up to a bound, by going on from turns and swaps."""
    begun = [((s, 0), (0, t)) for s in (1, -1) for t in (1, -1)] + [((0, s), (t, 0)) for s in (1, -1) for t in (1, -1)]
    found = {numbers: 0 for numbers in begun}
    now = begun
    for many in range(1, far + 1):
        behind = []
        for numbers in now:
            for weight in range(-2 * bound, 2 * bound + 1):
                for other in made(numbers, weight):
                    if other not in found and all(abs(number) <= bound for row in other for number in row):
                        found[other] = many
                        behind.append(other)
        now = behind
    return found


class Lifts(unittest.TestCase):

    def check(self, numbers):
        mixer = lifts_for(numbers)
        self.assertEqual(matrix(mixer), [[(number, 1) for number in row] for row in numbers])
        self.assertEqual((mixer.wide(), halvings(mixer)), (2, 0))
        many = len([step for step in mixer.steps() if step[0] == "lift"])
        self.assertEqual(fewest_lifts(numbers), many)
        return many

    def test_all_small_matrices(self):
        wanted = distances(25, 4)
        seen = {}
        for a, b, c, d in itertools.product(range(-7, 8), repeat=4):
            if a * d - b * c in (1, -1):
                many = self.check([[a, b], [c, d]])
                self.assertEqual(many, wanted[((a, b), (c, d))], (a, b, c, d))
                seen[many] = True
        self.assertEqual(sorted(seen), [0, 1, 2, 3])

    def test_drawn_products(self):
        drawn = Drawn(370)
        for _ in range(200):
            many, size = drawn.below(8), drawn.item([1, 2, 3, 1000])
            numbers = ((1, 0), (0, 1))
            for at in range(many):
                numbers = made(numbers, drawn.between(-size, size))[at % 2]
            self.assertLessEqual(self.check([list(row) for row in numbers]), many)

    def test_great_matrices(self):
        drawn = Drawn(371)
        for _ in range(40):
            numbers, at = ((1, 0), (0, 1)), 0
            while True:
                more = made(numbers, drawn.between(-9, 9))[at % 2]
                if max(abs(number) for row in more for number in row) >= 10 ** 30:
                    break
                numbers, at = more, at + 1
            self.assertLessEqual(self.check([list(row) for row in numbers]), at)
            self.check([list(numbers[1]), [-number for number in numbers[0]]])

    def test_long_ones_of_great_quotients_have_no_shorter_way(self):
        # With quotients of at least 3 no other way of dividing is shorter: each lift made is one that is needed.
        for many in range(1, 12):
            numbers = ((1, 0), (0, 1))
            for at in range(many):
                numbers = made(numbers, 3 + at)[at % 2]
            self.assertEqual(self.check([list(row) for row in numbers]), many)

    def test_fibonacci_numbers(self):
        one, two = 1, 1
        for _ in range(140):
            one, two = two, one + two
            if two < 10 ** 30:
                self.check([[two, one], [one, two - one]])

    def test_turns_and_swaps_need_none(self):
        for s, t in itertools.product((1, -1), repeat=2):
            self.assertEqual(self.check([[s, 0], [0, t]]), 0)
            self.assertEqual(self.check([[0, s], [t, 0]]), 0)
            for weight in (1, -1, 5, 10 ** 30 - 1):
                self.assertEqual(self.check([[s, weight], [0, t]]), 1)
                self.assertEqual(self.check([[s, 0], [weight, t]]), 1)
                self.assertEqual(self.check([[weight, s], [t, 0]]), 1)
                self.assertEqual(self.check([[0, s], [t, weight]]), 1)

    def test_other_matrices_are_refused(self):
        for numbers in ([[2, 0], [0, 1]], [[1, 2], [3, 4]], [[1, 1], [1, 1]], [[0, 0], [0, 0]], [[2, 0], [0, 2]]):
            for function in (fewest_lifts, lifts_for):
                with self.assertRaises(InvalidMatrix) as caught:
                    function(numbers)
                self.assertIs(caught.exception.value, numbers)


class ComesBack(unittest.TestCase):

    def back_by_words(self, mixer):
        units = [[1 if at == way else 0 for at in range(mixer.wide())] for way in range(mixer.wide())]
        now = [list(unit) for unit in units]
        for times in range(1, 30):
            now = [mixed(mixer, samples) for samples in now]
            if now == units:
                return times
        return None

    def test_drawn_mixers(self):
        drawn = Drawn(372)
        found = {}
        for wide in range(1, 5):
            for _ in range(400):
                mixer = drawn_mixer(drawn, wide, drawn.between(0, 8), 1, 0)
                wanted = self.back_by_words(mixer)
                self.assertEqual(comes_back(mixer), wanted)
                found[wanted] = True
        self.assertLessEqual({None, 1, 2, 3, 4, 6}, set(found))

    def test_of_all_orders(self):
        turn6 = [("lift", 0, [0, -1, 0, 0], 0), ("lift", 1, [1, 0, 0, 0], 0)]
        turn4 = [("swap", 2, 3), ("turn", 2)]
        self.assertEqual(comes_back(Mixer(4, turn6)), 6)
        self.assertEqual(comes_back(Mixer(4, turn4)), 4)
        self.assertEqual(comes_back(Mixer(4, turn6 + turn4)), 12)
        self.assertEqual(comes_back(Mixer(4, [("swap", 0, 1), ("swap", 1, 2), ("swap", 2, 3)])), 4)
        self.assertEqual(comes_back(Mixer(4, [("swap", 0, 1), ("swap", 1, 2), ("swap", 2, 3), ("turn", 0)])), 8)
        self.assertEqual(comes_back(Mixer(1, [])), 1)
        self.assertEqual(comes_back(Mixer(1, [("turn", 0)])), 2)
        self.assertIsNone(comes_back(Mixer(2, [("lift", 0, [0, 1], 0)])))
        self.assertIsNone(comes_back(Mixer(2, [("lift", 0, [0, TOP], 0), ("lift", 1, [TOP, 0], 0)])))

    def test_a_shift_is_refused(self):
        for steps in ([("lift", 0, [0, 1], 1)], [("turn", 0), ("lift", 0, [0, 0], 2)], [("lift", 1, [2, 0], 1), ("swap", 0, 1)]):
            mixer = Mixer(2, steps)
            with self.assertRaises(InvalidMixer) as caught:
                comes_back(mixer)
            self.assertIs(caught.exception.value, mixer)

    def test_the_limits_are_reached(self):
        begun = time.monotonic()
        drawn = Drawn(373)
        for wide in range(1, 5):
            mixer = drawn_mixer(drawn, wide, 12, TOP, 0)
            self.assertEqual(comes_back(mixer), self.back_by_words(mixer))
        steps = [("lift", 0, [0, 10 ** 30 - 1], 0), ("lift", 1, [10 ** 30 - 1, 0], 0)]
        self.assertIsNone(comes_back(Mixer(2, steps)))
        back = steps + [("turn", 0)] + [("lift", 1, [1 - 10 ** 30, 0], 0), ("lift", 0, [0, 1 - 10 ** 30], 0)]
        self.assertEqual(comes_back(Mixer(2, back)), 2)
        self.assertLess(time.monotonic() - begun, 10)


if __name__ == "__main__":
    unittest.main()
