"""Promises [32] to [35], and `commute` of [36]: what mixers do over all lists."""

import itertools
import time
import unittest
from fractions import Fraction

from wholesound.mixers import Mixer, halvings, joined_mixers, matrix, mixed, mixed_within, undoing
from wholesound.mixing import (
    commute, enough, misses, on_the_way, parted_samples, parted_within, ranges, same_mix, same_within)

from tests.drawn import Drawn
from tests.odd import lists_within
from tests.test_mixers import drawn_mixer, drawn_step

TOP = 2 ** 15


def lists(low, high, wide):
    return [list(numbers) for numbers in itertools.product(range(low, high + 1), repeat=wide)]


def missed(mixer, samples):
    """By how much each way is more than its row tells."""
    told = [sum(Fraction(*one) * number for one, number in zip(row, samples)) for row in matrix(mixer)]
    return [got - wanted for got, wanted in zip(mixed(mixer, samples), told)]


def mixer_of(drawn, wide, many, top, most):
    """A drawn mixer with at most so many halvings."""
    while True:
        mixer = drawn_mixer(drawn, wide, many, top, 2)
        if halvings(mixer) <= most:
            return mixer


def rounded_up(step):
    """The steps that lift as a step does, but rounded up instead of down."""
    return [("turn", step[1]), ("lift", step[1], [-weight for weight in step[2]], step[3]), ("turn", step[1])]


def half_turned(drawn, mixer):
    """A mixer of the same matrix, some of whose lifts are rounded up instead of down."""
    steps = []
    for step in mixer.steps():
        steps += rounded_up(step) if step[0] == "lift" and drawn.below(3) == 0 else [step]
    return Mixer(mixer.wide(), steps)


# Of the numbers of the second way only those with the rest 3 by 4 lift the first one: 3 by 4 less a half less a fourth.
ONE_REST = [("lift", 0, [0, 3], 2)] + rounded_up(("lift", 0, [0, -1], 1)) + rounded_up(("lift", 0, [0, -1], 2))


def fraction(number):
    return (Fraction(number).numerator, Fraction(number).denominator)


MOST = {1: 10, 2: 5, 3: 3, 4: 2}


class Misses(unittest.TestCase):

    def test_over_all_rests(self):
        drawn = Drawn(320)
        for wide, most in ((1, 3), (2, 3), (3, 2), (4, 1)):
            for _ in range(15):
                mixer = mixer_of(drawn, wide, drawn.between(1, 6), 5, most)
                far = 2 ** halvings(mixer)
                found = [missed(mixer, samples) for samples in lists(-far, far - 1, wide)]
                told = misses(mixer)
                self.assertEqual(len(told), wide)
                for way, (least, samples, greatest, others) in enumerate(told):
                    column = [one[way] for one in found]
                    self.assertEqual((least, greatest), (fraction(min(column)), fraction(max(column))))
                    self.assertEqual(fraction(missed(mixer, samples)[way]), least)
                    self.assertEqual(fraction(missed(mixer, others)[way]), greatest)

    def test_far_lists_miss_no_more(self):
        drawn = Drawn(321)
        for wide, most in MOST.items():
            for _ in range(4):
                mixer = mixer_of(drawn, wide, 12, TOP, most)
                told = misses(mixer)
                for _ in range(60):
                    for way, by in enumerate(missed(mixer, drawn.numbers(wide, -10 ** 29, 10 ** 29))):
                        self.assertTrue(Fraction(*told[way][0]) <= by <= Fraction(*told[way][2]))

    def test_nothing_is_missed_without_halvings(self):
        for wide in range(1, 5):
            for least, samples, greatest, others in misses(Mixer(wide, [("turn", 0)])):
                self.assertEqual((least, greatest, len(samples), len(others)), ((0, 1), (0, 1), wide, wide))

    def test_no_list_is_told_twice(self):
        for wide in range(1, 5):
            for mixer in (Mixer(wide, []), Mixer(wide, [("turn", 0)]), Mixer(wide, [("lift", 0, [0] * wide, 2)])):
                for told in (misses(mixer), ranges(mixer, [(3, 3)] * wide), ranges(mixer, [(-9, 9)] * wide)):
                    found = lists_within(told)
                    self.assertEqual((len(found), len({id(one) for one in found})), (1 + 2 * wide, 1 + 2 * wide))


class Alike(unittest.TestCase):

    def parted_by_words(self, one, other):
        """The first of the least lists that are mixed unlike, up to where all that can be parted is."""
        far = 2 ** max(halvings(one), halvings(other)) + 1
        unlike = [samples for samples in lists(-far, far, one.wide()) if mixed(one, samples) != mixed(other, samples)]
        return min(unlike, key=lambda samples: (max(abs(number) for number in samples), samples), default=None)

    def check(self, one, other):
        wanted = self.parted_by_words(one, other)
        self.assertEqual(parted_samples(one, other), wanted, (one.steps(), other.steps()))
        self.assertEqual(parted_samples(other, one), wanted)
        self.assertIs(same_mix(one, other), wanted is None)
        self.assertIs(same_mix(other, one), wanted is None)
        return wanted

    def test_all_short_ones_on_two_ways(self):
        some = [("turn", 0), ("swap", 0, 1), ("lift", 0, [0, 1], 0), ("lift", 0, [0, -1], 1), ("lift", 0, [0, 1], 1),
                ("lift", 1, [2, 0], 1), ("lift", 0, [0, 3], 2)]
        pool = [Mixer(2, list(steps)) for many in range(3) for steps in itertools.product(some, repeat=many)]
        pool = [mixer for mixer in pool if halvings(mixer) <= 2]
        for one in pool[::3]:
            for other in pool[::2]:
                self.check(one, other)

    def test_drawn_ones(self):
        drawn = Drawn(330)
        for wide, most in ((1, 4), (2, 3), (3, 1), (4, 1)):
            for _ in range(40):
                one = mixer_of(drawn, wide, drawn.below(4), 3, most)
                steps = one.steps()
                if steps and drawn.below(2):
                    steps[drawn.below(len(steps))] = drawn_step(drawn, wide, 2, 1)
                elif drawn.below(2):
                    steps = undoing(undoing(one)).steps()
                other = Mixer(wide, steps)
                if halvings(other) <= most:
                    self.check(one, other)

    def test_one_matrix_but_other_rounding(self):
        drawn = Drawn(332)
        for wide, most in ((2, 4), (3, 2), (4, 1)):
            for _ in range(60):
                one = mixer_of(drawn, wide, drawn.below(6), 3, most)
                other = half_turned(drawn, one)
                self.assertEqual(matrix(one), matrix(other))
                if halvings(one) * wide <= 6:
                    self.check(one, other)

    def test_lists_that_only_one_rest_parts(self):
        one, none = Mixer(2, ONE_REST), Mixer(2, [])
        self.assertEqual([mixed(one, [0, at])[0] for at in range(-4, 8)], [0, 0, 0, 1] * 3)
        self.assertEqual(parted_samples(one, none), [-1, -1])
        turned = Mixer(2, [("turn", 1)] + ONE_REST + [("turn", 1)])
        self.assertEqual(parted_samples(turned, none), [-1, 1])
        self.assertFalse(same_mix(one, none))
        for depth in (1, 2, 5, 32):
            self.assertEqual(parted_within(one, none, depth)[1] % 4, 3)
        for depth in (2, 5, 32):
            self.assertEqual(parted_within(turned, none, depth)[1] % 4, 1)
        self.assertIsNone(parted_within(turned, none, 1))

    def test_lists_that_only_the_rest_between_parts(self):
        # A fourth and three fourths are twice a half, but for the numbers with the rest 2 by 4.
        one = Mixer(2, [("lift", 0, [0, 1], 2), ("lift", 0, [0, 3], 2)])
        other = Mixer(2, [("lift", 0, [0, 1], 1), ("lift", 0, [0, 1], 1)])
        self.assertEqual(self.check(one, other), [-2, -2])
        again = Mixer(3, [("lift", 2, [0, 1, 0], 2), ("lift", 2, [0, 3, 0], 2)])
        self.assertEqual(parted_samples(again, Mixer(3, [("lift", 2, [0, 1, 0], 1)] * 2)), [-2, -2, -2])

    def test_alike_by_other_steps(self):
        drawn = Drawn(331)
        for wide, most in MOST.items():
            for _ in range(10):
                one = mixer_of(drawn, wide, 6, TOP, most)
                other = undoing(undoing(one))
                self.assertTrue(same_mix(one, other))
                self.assertIsNone(parted_samples(one, other))
                lift = [0] * wide
                if wide > 1:
                    lift[1] = 1
                    more = Mixer(wide, other.steps() + [("lift", 0, lift, 0)])
                    self.assertFalse(same_mix(one, more))

    def test_alike_but_for_the_matrix(self):
        one, other = Mixer(2, [("lift", 0, [0, 1], 3)]), Mixer(2, [("lift", 0, [0, 0], 3)])
        self.assertEqual(self.check(one, other), [-1, -1])
        one, other = Mixer(2, [("lift", 0, [0, 7], 3)]), Mixer(2, [("lift", 0, [0, 1], 0)])
        self.assertEqual(self.check(one, other), [-1, 1])
        one, other = Mixer(2, [("lift", 0, [0, 1], 4)]), Mixer(2, [("turn", 0), ("lift", 0, [0, -1], 4), ("turn", 0)])
        self.assertEqual(self.check(one, other), [-1, -1])
        # Two eighths rounded one by one are not a fourth.
        near = [("lift", 0, [0, 1], 3), ("turn", 0), ("lift", 0, [0, -1], 3), ("turn", 0)]
        self.assertFalse(same_mix(Mixer(2, near), Mixer(2, [("lift", 0, [0, 2], 3)])))

    def test_lists_that_are_parted_late(self):
        for shift in range(1, 6):
            up = Mixer(2, [("lift", 0, [0, 1], shift), ("lift", 0, [0, -1], shift)])
            self.assertEqual(parted_samples(up, Mixer(2, [])), [-1, -1])
            both = Mixer(2, [("lift", 0, [0, 2 ** shift - 1], shift)])
            self.assertEqual(parted_samples(both, Mixer(2, [("lift", 0, [0, 1], 0)])), [-1, 1])

    def test_commute_by_both_orders(self):
        drawn = Drawn(360)
        for wide, most in ((1, 2), (2, 2), (3, 1), (4, 1)):
            for _ in range(40):
                one, other = mixer_of(drawn, wide, drawn.below(3), 2, most), mixer_of(drawn, wide, drawn.below(3), 2, most)
                total = halvings(one) + halvings(other)
                if total * wide > 8:
                    continue
                far = 2 ** total
                alike = all(mixed(one, mixed(other, samples)) == mixed(other, mixed(one, samples))
                            for samples in lists(-far, far, wide))
                self.assertIs(commute(one, other), alike)
                self.assertIs(commute(other, one), alike)

    def test_commute_of_some(self):
        one = Mixer(2, [("lift", 0, [0, 3], 2)])
        self.assertTrue(commute(one, one))
        self.assertTrue(commute(one, Mixer(2, [])))
        self.assertTrue(commute(one, Mixer(2, [("lift", 0, [0, 5], 3)])))
        self.assertTrue(commute(one, Mixer(2, [("turn", 0), ("turn", 0)])))
        self.assertFalse(commute(one, Mixer(2, [("lift", 1, [5, 0], 2)])))
        self.assertFalse(commute(Mixer(2, [("turn", 0)]), one))
        # Both orders have one matrix, and only their rounding is unlike.
        self.assertFalse(commute(one, Mixer(2, [("turn", 0), ("turn", 1)])))


class Within(unittest.TestCase):

    def test_over_all_samples(self):
        drawn = Drawn(350)
        for wide, most, deep in ((1, 4, 5), (2, 3, 4), (3, 2, 3), (4, 1, 2)):
            for _ in range(25):
                one = mixer_of(drawn, wide, drawn.below(4), 3, most)
                steps = one.steps()
                if steps and drawn.below(3):
                    steps[drawn.below(len(steps))] = drawn_step(drawn, wide, 3, 2)
                for other in (Mixer(wide, steps), half_turned(drawn, one)):
                    if halvings(other) <= most:
                        self.check_all(one, other, deep)

    def check_all(self, one, other, deep):
        for depth in range(1, deep + 1):
            unlike = [samples for samples in lists(-2 ** (depth - 1), 2 ** (depth - 1) - 1, one.wide())
                      if mixed(one, samples) != mixed(other, samples)]
            self.assertIs(same_within(one, other, depth), unlike == [])
            self.check(one, other, depth, unlike == [])

    def test_alike_at_all_rests_from_the_least_sample_on(self):
        # All of eight numbers side by side have one eighth rounded down: only the next number tells both ways apart.
        for shift in (1, 2, 3):
            one, other = (Mixer(3, [("lift", 0, weights, shift)]) for weights in ([0, 1, 0], [0, 0, 1]))
            for depth in range(1, 33):
                self.check(one, other, depth, False)
                self.assertIs(same_within(one, other, depth), False)

    def check(self, one, other, depth, alike):
        for first, second in ((one, other), (other, one)):
            samples = parted_within(first, second, depth)
            if alike:
                self.assertIsNone(samples)
            else:
                self.assertTrue(all(-2 ** (depth - 1) <= sample < 2 ** (depth - 1) for sample in samples))
                self.assertEqual(len(samples), one.wide())
                self.assertNotEqual(mixed(one, samples), mixed(other, samples))

    def test_alike_up_to_a_depth(self):
        for shift in range(1, 6):
            one = Mixer(2, [("lift", 0, [0, 1], shift)])
            for depth in range(1, 33):
                self.assertFalse(same_within(one, Mixer(2, []), depth))
                self.check(one, Mixer(2, []), depth, False)
        # A half and a whole, rounded down, are the same of 0 and of -1 alone.
        one, other = Mixer(2, [("lift", 0, [0, 1], 1)]), Mixer(2, [("lift", 0, [0, 1], 0)])
        self.assertTrue(same_within(one, other, 1))
        for depth in range(2, 33):
            self.check(one, other, depth, False)
        one, other = Mixer(2, [("lift", 0, [0, 1], 5)]), Mixer(2, [("lift", 0, [0, 1], 4)])
        for depth in range(1, 33):
            self.check(one, other, depth, depth <= 5)
            self.assertIs(same_within(one, other, depth), depth <= 5)
        one, other = Mixer(1, [("turn", 0), ("lift", 0, [0], 10)]), Mixer(1, [("turn", 0)])
        for depth in range(1, 33):
            self.assertTrue(same_within(one, other, depth))
            self.check(one, Mixer(1, []), depth, False)

    def test_alike_at_all_rests_but_not_farther(self):
        one = Mixer(2, [("lift", 0, [0, 1], 5)])
        for weight in (1 + 2 ** 15, 2, 33, -31):
            for depth in (6, 7, 32):
                self.check(one, Mixer(2, [("lift", 0, [0, weight], 5)]), depth, False)


class Ranges(unittest.TestCase):

    def check(self, mixer, boxes):
        wide = mixer.wide()
        found = [mixed(mixer, list(samples)) for samples in itertools.product(*[range(low, high + 1) for low, high in boxes])]
        told = ranges(mixer, boxes)
        self.assertEqual(len(told), wide)
        for way in range(wide):
            column = [one[way] for one in found]
            self.assertEqual((told[way][0], told[way][2]), (min(column), max(column)), (mixer.steps(), boxes))
        self.check_lists(mixer, boxes, told)

    def check_lists(self, mixer, boxes, told):
        for way, (least, samples, greatest, others) in enumerate(told):
            for number, one in ((least, samples), (greatest, others)):
                self.assertEqual(mixed(mixer, one)[way], number)
                self.assertEqual(len(one), mixer.wide())
                self.assertTrue(all(low <= at <= high for at, (low, high) in zip(one, boxes)))

    def test_all_lists_of_small_boxes(self):
        drawn = Drawn(340)
        for wide, most, far in ((1, 4, 40), (2, 3, 20), (3, 2, 8), (4, 1, 4)):
            for _ in range(40):
                mixer = mixer_of(drawn, wide, drawn.below(6), 5, most)
                boxes = []
                for _ in range(wide):
                    low = drawn.between(-far, far)
                    boxes.append((low, low + drawn.below(drawn.item([1, 2, far]))))
                self.check(mixer, boxes)

    def test_great_boxes(self):
        drawn = Drawn(341)
        for wide, most in MOST.items():
            for _ in range(6):
                mixer = mixer_of(drawn, wide, drawn.between(1, 12), TOP, most)
                boxes = [tuple(sorted(drawn.numbers(2, -10 ** 30 + 1, 10 ** 30 - 1))) for _ in range(wide)]
                told = ranges(mixer, boxes)
                self.check_lists(mixer, boxes, told)
                near = [samples for _, samples, _, others in told] + [others for _, samples, _, others in told]
                for _ in range(100):
                    samples = drawn.item(near)
                    moved = [max(low, min(high, at + drawn.between(-40, 40))) for at, (low, high) in zip(samples, boxes)]
                    for way, number in enumerate(mixed(mixer, moved)):
                        self.assertTrue(told[way][0] <= number <= told[way][2])

    def test_one_list(self):
        mixer = Mixer(2, [("lift", 0, [0, 5], 3), ("swap", 0, 1)])
        self.assertEqual(ranges(mixer, [(7, 7), (-3, -3)]), [(-3, [7, -3], -3, [7, -3]), (5, [7, -3], 5, [7, -3])])

    def depths(self, low, high):
        bits = 1
        while not (-2 ** (bits - 1) <= low and high < 2 ** (bits - 1)):
            bits += 1
        return bits

    def test_enough_over_all_samples(self):
        drawn = Drawn(342)
        for wide, most, deep in ((1, 4, 6), (2, 3, 4), (3, 2, 3), (4, 1, 2)):
            for _ in range(25):
                mixer = mixer_of(drawn, wide, drawn.below(6), 5, most)
                for depth in range(1, deep + 1):
                    all_lists = lists(-2 ** (depth - 1), 2 ** (depth - 1) - 1, wide)
                    found = [mixed(mixer, samples) for samples in all_lists]
                    wanted = [self.depths(min(column), max(column)) for column in zip(*found)]
                    self.assertEqual(enough(mixer, depth), wanted)
                    self.check_on_the_way(mixer, depth, all_lists)

    def check_on_the_way(self, mixer, depth, all_lists):
        numbers = []
        for many in range(len(mixer.steps()) + 1):
            part = Mixer(mixer.wide(), mixer.steps()[:many])
            numbers += [number for samples in all_lists for number in mixed(part, samples)]
        wanted = self.depths(min(numbers), max(numbers))
        self.assertEqual(on_the_way(mixer, depth), wanted)
        alike = all(mixed(mixer, samples) == mixed_within(mixer, depth, samples) for samples in all_lists)
        if wanted == depth:
            self.assertTrue(alike)

    def test_enough_by_ranges_at_all_depths(self):
        drawn = Drawn(343)
        for depth in range(1, 33):
            wide = drawn.between(1, 4)
            mixer = mixer_of(drawn, wide, 6, TOP, MOST[wide])
            told = ranges(mixer, [(-2 ** (depth - 1), 2 ** (depth - 1) - 1)] * wide)
            self.assertEqual(enough(mixer, depth), [self.depths(low, high) for low, _, high, _ in told])

    def test_on_the_way_of_some(self):
        self.assertEqual(on_the_way(Mixer(2, []), 7), 7)
        self.assertEqual(on_the_way(Mixer(2, [("swap", 0, 1)]), 7), 7)
        self.assertEqual(on_the_way(Mixer(2, [("turn", 0)]), 7), 8)
        self.assertEqual(on_the_way(Mixer(2, [("turn", 0), ("turn", 0)]), 7), 8)
        self.assertEqual(enough(Mixer(2, [("turn", 0), ("turn", 0)]), 7), [7, 7])
        self.assertEqual(enough(Mixer(2, [("turn", 0)]), 32), [33, 32])
        back = Mixer(2, [("lift", 0, [0, 100], 0), ("lift", 0, [0, -100], 0)])
        self.assertEqual((enough(back, 4), on_the_way(back, 4)), ([4, 4], 11))


class Limits(unittest.TestCase):

    def test_the_limits_are_reached(self):
        begun = time.monotonic()
        for wide, most in MOST.items():
            weights = [TOP, -TOP, TOP - 1, -TOP + 1][:wide]
            lifts = []
            for at in range(12):
                own = [0 if place == at % wide else weight for place, weight in enumerate(weights)]
                lifts.append(("lift", at % wide, own, 1 if at < most else 0))
            one, other = Mixer(wide, lifts), Mixer(wide, lifts[::-1])
            far = 10 ** 30 - 1
            misses(one)
            ranges(one, [(-far, far)] * wide)
            enough(one, 32)
            on_the_way(one, 32)
            self.assertTrue(same_mix(one, undoing(undoing(one))))
            parted_samples(one, other)
            self.assertIsNone(parted_within(one, undoing(undoing(one)), 32))
            same_within(one, other, 32)
            half = Mixer(wide, lifts[:most // 2] + lifts[most:])
            commute(half, joined_mixers(Mixer(wide, []), half))
        self.assertLess(time.monotonic() - begun, 30)


if __name__ == "__main__":
    unittest.main()
