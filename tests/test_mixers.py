"""Promises [30], [31] and [36], and the matrix and halvings of [32]: mixers and their steps."""

import itertools
import unittest
from fractions import Fraction

from wholesound.errors import InvalidItem, InvalidNumber, InvalidSamples
from wholesound.guessers import Guesser
from wholesound.mixers import (
    Mixer, halvings, joined_mixers, matrix, mixed, mixed_within, tidy, undoing, unmixed, unmixed_within)
from wholesound.mixing import same_mix
from wholesound.sounds import Sound

from tests.drawn import Drawn
from tests.odd import spoil, things

TOP = 2 ** 15


def wrap(number, depth):
    return (number + 2 ** (depth - 1)) % 2 ** depth - 2 ** (depth - 1)


def drawn_step(drawn, wide, top, shift):
    kind = drawn.item(["lift", "lift", "lift", "turn", "swap"] if wide > 1 else ["lift", "turn"])
    at = drawn.below(wide)
    if kind == "turn":
        return ("turn", at)
    if kind == "swap":
        return ("swap", at, (at + drawn.between(1, wide - 1)) % wide)
    weights = drawn.numbers(wide, -top, top)
    weights[at] = 0
    return ("lift", at, weights, drawn.between(0, shift))


def drawn_mixer(drawn, wide, many, top, shift):
    return Mixer(wide, [drawn_step(drawn, wide, top, shift) for _ in range(many)])


def by_words(steps, samples, wrapped=lambda number: number):
    """What the steps do, one behind the other, by the words of [30]."""
    numbers = dict(enumerate(samples))
    for step in steps:
        if step[0] == "lift":
            _, to, weights, shift = step
            total = Fraction(sum(weight * numbers[at] for at, weight in enumerate(weights)), 2 ** shift)
            numbers[to] = wrapped(numbers[to] + total.__floor__())
        elif step[0] == "turn":
            numbers[step[1]] = wrapped(-numbers[step[1]])
        else:
            numbers[step[1]], numbers[step[2]] = numbers[step[2]], numbers[step[1]]
    return [numbers[at] for at in range(len(samples))]


class Mixers(unittest.TestCase):

    def test_tells_what_it_was_made_of(self):
        steps = [("lift", 1, [3, 0, -10 ** 29], 100), ("turn", 2), ("swap", 2, 0), ("swap", 0, 2), ("lift", 0, [0, 0, 0], 0)]
        self.assertEqual((Mixer(3, steps).wide(), Mixer(3, steps).steps()), (3, steps))
        for wide in range(1, 5):
            self.assertEqual((Mixer(wide, []).wide(), Mixer(wide, []).steps()), (wide, []))
        many = [("turn", 0)] * 500
        self.assertEqual(Mixer(1, many).steps(), many)

    def test_steps_are_copied_in_and_out(self):
        weights = [0, 1]
        steps = [("lift", 0, weights, 1), ("turn", 1)]
        mixer = Mixer(2, steps)
        weights[1] = 7
        steps.pop()
        self.assertEqual(mixer.steps(), [("lift", 0, [0, 1], 1), ("turn", 1)])
        mixer.steps()[0][2][1] = 9
        mixer.steps().pop()
        self.assertEqual(mixer.steps(), [("lift", 0, [0, 1], 1), ("turn", 1)])
        for made in (joined_mixers(mixer, mixer), undoing(undoing(mixer)), tidy(mixer)):
            told = made.steps()
            spoil(made.steps())
            self.assertEqual(made.steps(), told)
            self.assertEqual(mixer.steps(), [("lift", 0, [0, 1], 1), ("turn", 1)])

    def test_one_way(self):
        for bad in (("swap", 0, 0), ("swap", 0, 1), ("turn", 1), ("lift", 0, [1], 0), ("lift", 0, [], 0), ("lift", 1, [0], 0)):
            with self.assertRaises(InvalidItem) as caught:
                Mixer(1, [("turn", 0), bad])
            self.assertIs(caught.exception.value, bad)
        self.assertEqual(mixed(Mixer(1, [("lift", 0, [0], 3), ("turn", 0)]), [5]), [-5])

    def test_wide_is_refused_first(self):
        for wide in (0, 5, True, None):
            with self.assertRaises(InvalidNumber) as caught:
                Mixer(wide, [None])
            self.assertIs(caught.exception.value, wide)

    def test_first_wrong_step_is_told(self):
        first, second = ("turn", 2), ["turn", 0]
        with self.assertRaises(InvalidItem) as caught:
            Mixer(2, [("turn", 1), first, second])
        self.assertIs(caught.exception.value, first)

    def test_equality(self):
        mixer = Mixer(2, [("lift", 0, [0, 1], 1), ("turn", 1)])
        self.assertTrue(mixer == Mixer(2, [("lift", 0, [0, 1], 1), ("turn", 1)]))
        self.assertFalse(mixer != Mixer(2, [("lift", 0, [0, 1], 1), ("turn", 1)]))
        others = [Mixer(2, [("turn", 1), ("lift", 0, [0, 1], 1)]), Mixer(2, [("lift", 0, [0, 1], 1)]), Mixer(2, []),
                  Mixer(2, [("lift", 0, [0, 2], 2), ("turn", 1)]), Mixer(2, [("lift", 0, [0, 1], 1), ("turn", 0)])]
        for other in others + things() + [mixer.steps(), (2, mixer.steps()), Guesser([], 0), Sound(1, [[]])]:
            self.assertFalse(mixer == other)
            self.assertFalse(other == mixer)
            self.assertTrue(mixer != other)
        self.assertFalse(Mixer(1, []) == Mixer(2, []))
        self.assertFalse(Mixer(2, [("swap", 0, 1)]) == Mixer(2, [("swap", 1, 0)]))


class Mixing(unittest.TestCase):

    def test_all_small_lists(self):
        drawn = Drawn(300)
        for wide, far in ((1, 9), (2, 5), (3, 2), (4, 1)):
            for _ in range(20):
                mixer = drawn_mixer(drawn, wide, drawn.below(6), 3, 2)
                for numbers in itertools.product(range(-far, far + 1), repeat=wide):
                    samples = list(numbers)
                    told = mixed(mixer, samples)
                    self.assertEqual(told, by_words(mixer.steps(), samples))
                    self.assertEqual(unmixed(mixer, told), samples)
                    self.assertEqual(mixed(mixer, unmixed(mixer, samples)), samples)

    def test_great_ones(self):
        drawn = Drawn(301)
        for _ in range(100):
            wide = drawn.between(1, 4)
            mixer = drawn_mixer(drawn, wide, 12, TOP, 15)
            samples = drawn.numbers(wide, -10 ** 30 + 1, 10 ** 30 - 1)
            told = mixed(mixer, samples)
            self.assertEqual(told, by_words(mixer.steps(), samples))
            self.assertEqual(unmixed(mixer, told), samples)
            self.assertEqual(mixed(mixer, unmixed(mixer, samples)), samples)

    def test_rounded_down(self):
        mixer = Mixer(2, [("lift", 0, [0, 1], 1)])
        self.assertEqual([mixed(mixer, [0, number])[0] for number in (-3, -2, -1, 0, 1, 2)], [-2, -1, -1, 0, 0, 1])
        self.assertEqual(unmixed(mixer, [0, -1]), [1, -1])

    def test_results_are_new_lists(self):
        samples, mixer = [1, 2], Mixer(2, [])
        for told in (mixed(mixer, samples), unmixed(mixer, samples), mixed_within(mixer, 4, samples),
                     unmixed_within(mixer, 4, samples)):
            self.assertEqual(told, samples)
            self.assertIsNot(told, samples)

    def test_all_samples_of_small_depths(self):
        drawn = Drawn(302)
        for depth, wide in ((1, 1), (1, 4), (2, 2), (2, 3), (3, 2), (5, 1)):
            for _ in range(20):
                mixer = drawn_mixer(drawn, wide, drawn.below(7), 5, 2)
                found = []
                for numbers in itertools.product(range(-2 ** (depth - 1), 2 ** (depth - 1)), repeat=wide):
                    samples = list(numbers)
                    told = mixed_within(mixer, depth, samples)
                    self.assertEqual(told, by_words(mixer.steps(), samples, lambda number: wrap(number, depth)))
                    self.assertEqual(unmixed_within(mixer, depth, told), samples)
                    self.assertEqual(mixed_within(mixer, depth, unmixed_within(mixer, depth, samples)), samples)
                    found.append(told)
                self.assertEqual(len({tuple(told) for told in found}), len(found))

    def test_great_depths(self):
        drawn = Drawn(303)
        for depth in range(1, 33):
            wide = drawn.between(1, 4)
            mixer = drawn_mixer(drawn, wide, 12, TOP, 15)
            samples = drawn.samples(wide, depth)
            told = mixed_within(mixer, depth, samples)
            self.assertEqual(told, by_words(mixer.steps(), samples, lambda number: wrap(number, depth)))
            self.assertEqual(unmixed_within(mixer, depth, told), samples)
        self.assertEqual(mixed_within(Mixer(1, [("turn", 0)]), 4, [-8]), [-8])
        self.assertEqual(unmixed_within(Mixer(1, [("turn", 0)]), 4, [-8]), [-8])

    def test_samples_are_of_the_depth(self):
        for function in (mixed_within, unmixed_within):
            for samples in ([8, 0], [0, -9], [0], [0, 0, 0]):
                with self.assertRaises(InvalidSamples) as caught:
                    function(Mixer(2, []), 4, samples)
                self.assertIs(caught.exception.value, samples)
            self.assertEqual(function(Mixer(2, []), 4, [-8, 7]), [-8, 7])


class Matrices(unittest.TestCase):

    def fractions_of(self, mixer):
        """The steps done by fractions, on each way alone."""
        columns = []
        for way in range(mixer.wide()):
            numbers = [Fraction(at == way) for at in range(mixer.wide())]
            for step in mixer.steps():
                if step[0] == "lift":
                    numbers[step[1]] += sum(weight * number for weight, number in zip(step[2], numbers)) / 2 ** step[3]
                elif step[0] == "turn":
                    numbers[step[1]] *= -1
                else:
                    numbers[step[1]], numbers[step[2]] = numbers[step[2]], numbers[step[1]]
            columns.append(numbers)
        rows = zip(*columns)
        return [[(number.numerator, number.denominator) for number in row] for row in rows]

    def test_drawn_mixers(self):
        drawn = Drawn(304)
        for top, shift in ((2, 1), (TOP, 15), (3, 0)):
            for _ in range(60):
                mixer = drawn_mixer(drawn, drawn.between(1, 4), drawn.below(13), top, shift)
                self.assertEqual(matrix(mixer), self.fractions_of(mixer))
                self.assertEqual(halvings(mixer), sum(step[3] for step in mixer.steps() if step[0] == "lift"))

    def test_no_steps(self):
        self.assertEqual(matrix(Mixer(2, [])), [[(1, 1), (0, 1)], [(0, 1), (1, 1)]])
        self.assertEqual(halvings(Mixer(2, [("turn", 0), ("swap", 0, 1)])), 0)
        self.assertEqual(halvings(Mixer(1, [("lift", 0, [0], 100)])), 100)


class Steps(unittest.TestCase):

    def test_undoing_by_its_words(self):
        steps = [("turn", 1), ("lift", 0, [0, 3], 0), ("swap", 0, 1), ("lift", 1, [-5, 0], 2)]
        wanted = [("turn", 1), ("lift", 1, [-5, 0], 2), ("turn", 1), ("swap", 0, 1), ("lift", 0, [0, -3], 0), ("turn", 1)]
        self.assertEqual(undoing(Mixer(2, steps)).steps(), wanted)

    def test_undoing_leads_back_all_lists(self):
        drawn = Drawn(305)
        for _ in range(60):
            wide = drawn.between(1, 4)
            mixer = drawn_mixer(drawn, wide, drawn.below(8), 5, 3)
            back = undoing(mixer)
            self.assertEqual((back.wide(), halvings(back)), (wide, halvings(mixer)))
            for _ in range(30):
                samples = drawn.numbers(wide, -40, 40)
                self.assertEqual(mixed(back, samples), unmixed(mixer, samples))
                self.assertEqual(mixed(back, mixed(mixer, samples)), samples)

    def test_joined(self):
        drawn = Drawn(306)
        for _ in range(40):
            wide = drawn.between(1, 4)
            one, other = (drawn_mixer(drawn, wide, drawn.below(6), 5, 3) for _ in range(2))
            both = joined_mixers(one, other)
            self.assertEqual((both.wide(), both.steps()), (wide, one.steps() + other.steps()))
            samples = drawn.numbers(wide, -99, 99)
            self.assertEqual(mixed(both, samples), mixed(other, mixed(one, samples)))

    def tidy_by_words(self, steps):
        """One deed after the other, each time from the first step on."""
        steps = list(steps)
        while True:
            for at in range(len(steps)):
                left = self.first_deed(steps, at)
                if left is not None:
                    steps = left
                    break
            else:
                return steps

    def first_deed(self, steps, at):
        step, ahead, behind = steps[at], steps[:at], steps[at + 1:]
        if step[0] == "lift" and all(weight == 0 for weight in step[2]):
            return ahead + behind
        if step[0] == "lift" and step[3] > 0 and all(weight % 2 == 0 for weight in step[2]):
            return ahead + [("lift", step[1], [weight // 2 for weight in step[2]], step[3] - 1)] + behind
        if not behind:
            return None
        if step[0] == "turn" and behind[0] == step:
            return ahead + behind[1:]
        if step[0] == "swap" and behind[0][0] == "swap" and set(behind[0][1:]) == set(step[1:]):
            return ahead + behind[1:]
        if step[0] == "lift" and behind[0][0] == "lift" and behind[0][1] == step[1] and 0 in (step[3], behind[0][3]):
            shift = max(step[3], behind[0][3])
            weights = [one * 2 ** (shift - step[3]) + two * 2 ** (shift - behind[0][3])
                       for one, two in zip(step[2], behind[0][2])]
            return ahead + [("lift", step[1], weights, shift)] + behind[1:]
        return None

    def test_tidy_of_all_short_ones(self):
        some = [("turn", 0), ("turn", 1), ("swap", 0, 1), ("swap", 1, 0), ("lift", 0, [0, 1], 0), ("lift", 0, [0, -1], 0),
                ("lift", 0, [0, 2], 1), ("lift", 0, [0, 1], 1), ("lift", 0, [0, 0], 3), ("lift", 1, [4, 0], 3)]
        for many in range(5):
            for steps in itertools.product(some, repeat=many):
                told = tidy(Mixer(2, list(steps)))
                self.assertEqual(told.steps(), self.tidy_by_words(steps))

    def test_tidy_of_drawn_ones(self):
        drawn = Drawn(307)
        for _ in range(400):
            wide = drawn.between(1, 4)
            mixer = drawn_mixer(drawn, wide, drawn.below(13), 2, 2)
            told = tidy(mixer)
            self.assertEqual((told.wide(), told.steps()), (wide, self.tidy_by_words(mixer.steps())))
            self.assertTrue(tidy(told) == told)
            for _ in range(10):
                samples = drawn.numbers(wide, -30, 30)
                self.assertEqual(mixed(told, samples), mixed(mixer, samples))

    def test_tidy_mixes_all_lists_alike(self):
        drawn = Drawn(308)
        for _ in range(60):
            mixer = drawn_mixer(drawn, 2, drawn.below(5), 2, 1)
            if halvings(mixer) <= 5:
                self.assertTrue(same_mix(mixer, tidy(mixer)))

    def test_tidy_of_some(self):
        three = [("swap", 0, 1), ("turn", 2), ("lift", 0, [0, 6, 4], 2), ("lift", 0, [0, -3, -2], 1), ("turn", 2), ("swap", 1, 0)]
        self.assertEqual(tidy(Mixer(3, three)).steps(), three[:2] + [("lift", 0, [0, 3, 2], 1)] + three[3:])
        # Only once the halves are taken is there a lift of shift 0 that goes with the next one.
        two = [("swap", 0, 1), ("turn", 1), ("lift", 0, [0, 6], 1), ("lift", 0, [0, -3], 0), ("turn", 1), ("swap", 1, 0)]
        self.assertEqual(tidy(Mixer(2, two)).steps(), [])
        self.assertEqual(tidy(Mixer(2, [("lift", 0, [0, 0], 15)])).steps(), [])
        self.assertEqual(tidy(Mixer(2, [("lift", 0, [0, TOP], 15)])).steps(), [("lift", 0, [0, 1], 0)])


if __name__ == "__main__":
    unittest.main()
