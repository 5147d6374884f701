"""[80] to [85]: least blocks, least plans, prices, and all plans in order, against all plans written out."""

import itertools
import time
import unittest
from fractions import Fraction

from wholesound.errors import InvalidNumber, InvalidPlan
from wholesound.guessers import Guesser, rests, steps
from wholesound.mixers import Mixer
from wholesound.orders import how_many_plans, plan_at, plan_number
from wholesound.plans import is_prices, least_block, least_plan, prices, spare
from wholesound.settings import Settings
from wholesound.sounds import Sound
from wholesound.streams import fits, sizes

from tests.drawn import Drawn
from tests.words import blocks_of, folded, plans_of

LIFT = Mixer(2, [("lift", 1, [-1, 0], 0)])
SETTINGS = [
    Settings([1, 2], [Mixer(1, [])], [steps(1)], 1),
    Settings([2, 3], [Mixer(1, [])], [steps(0), Guesser([1], 1)], 0),
    Settings([1, 4], [Mixer(1, [("turn", 0)]), Mixer(1, [])], [], 2),
    Settings([2], [Mixer(2, []), LIFT], [steps(1)], 0),
    Settings([3], [LIFT], [steps(1), steps(2)], 1),
    Settings([4], [Mixer(1, [])], [steps(1)], 2),
]


def small_sounds():
    """Some settings and small sounds, all of those of a kind where they are few."""
    for row in itertools.product(range(-2, 2), repeat=3):
        yield SETTINGS[0], Sound(2, [list(row)])
        yield SETTINGS[1], Sound(2, [list(row)])
    for row in itertools.product((0, -1), repeat=4):
        yield SETTINGS[2], Sound(1, [list(row)])
    for one, other in itertools.product(itertools.product((-2, 0, 1), repeat=2), repeat=2):
        yield SETTINGS[3], Sound(2, [list(one), list(other)])
    drawn = Drawn(800)
    for at in (0, 1, 2, 3, 4, 5):
        for _ in range(6):
            settings = SETTINGS[at]
            depth = drawn.between(1, 3)
            many = drawn.between(0, 4)
            low = drawn.below(min(2, depth))
            yield settings, Sound(depth, [[sample >> low << low for sample in drawn.samples(many, depth)]
                                          for _ in range(settings.ways())])


class Least(unittest.TestCase):

    def test_least_blocks(self):
        for settings, sound in small_sounds():
            for place in range(sound.many()):
                for length in range(1, sound.many() - place + 1):
                    blocks = blocks_of(settings, sound, place, length)
                    least = min(size for size, _ in blocks)
                    first = [block for size, block in blocks if size == least][0]
                    self.assertEqual(least_block(settings, sound, place, length), (least, first))

    def test_least_plans(self):
        for settings, sound in small_sounds():
            plans = plans_of(settings, sound)
            told = least_plan(settings, sound)
            if not plans:
                self.assertIsNone(told)
                continue
            least = min(size for size, _ in plans)
            self.assertEqual(told[0], least)
            lengths = [[block[0] for block in plan] for size, plan in plans if size == least]
            self.assertEqual([block[0] for block in told[1]], min(lengths))
            place = 0
            for block in told[1]:
                self.assertEqual(least_block(settings, sound, place, block[0])[1], block)
                place += block[0]
            self.assertTrue(fits(settings, sound, told[1]))
            self.assertEqual(sum(sizes(settings, sound, told[1])), least)
            self.assertIn((least, told[1]), plans)

    def test_ties_go_to_the_first_kinds(self):
        by = Settings([1, 2, 4], [Mixer(1, [])] * 2, [steps(0), steps(0), steps(1)], 2)
        # One sample: still and plain have as many bits.
        self.assertEqual(least_block(by, Sound(4, [[5]]), 0, 1), (73, (1, 0, [("still",)])))
        for depth, row in ((8, [0, 1, 0, 1, 0, 0, 1, 1]), (8, [64, -64, 0, 64]), (12, [100] * 4 + [101] * 4), (6, [8, -8])):
            sound = Sound(depth, [row])
            for place in range(len(row)):
                for length in (1, 2, 4, 8):
                    if place + length <= len(row) and (length < 4 or depth < 8):
                        blocks = blocks_of(by, sound, place, length)
                        least = min(size for size, _ in blocks)
                        first = [block for size, block in blocks if size == least][0]
                        self.assertEqual(least_block(by, sound, place, length), (least, first))

    def least_by_words(self, settings, depth, row):
        """The size of the least block of one way and its kind, and how many numbers of parts have it."""
        many = len(row)
        found = [(2 + depth, ("still",))] if len(set(row)) == 1 else []
        found.append((2 + depth * many, ("plain",)))
        for at, guesser in enumerate(settings.guessers()):
            for low in range(min(8, depth)):
                if any(sample % 2 ** low for sample in row):
                    continue
                left = [folded(rest) for rest in rests(guesser, depth - low, [sample // 2 ** low for sample in row])]
                for parts in (1, 2, 4, 8, 16):
                    if parts > 2 ** settings.parts() or many % parts:
                        continue
                    widths, cost = [], 12 + 5 * parts
                    for part in range(parts):
                        own = left[part * many // parts:(part + 1) * many // parts]
                        costs = [sum(fold // 2 ** width + 1 + width for fold in own) for width in range(min(31, depth - low) + 1)]
                        widths.append(costs.index(min(costs)))
                        cost += min(costs)
                    found.append((cost, ("guessed", at, low, widths)))
        least = min(size for size, _ in found)
        ways = [kind for size, kind in found if size == least]
        return 67 + least, ways[0], ways

    def test_lows_parts_and_widths_of_longer_rows(self):
        drawn = Drawn(811)
        ties = {}
        for _ in range(900):
            depth = drawn.between(2, 20)
            settings = Settings([16], [Mixer(1, [])], [steps(0), steps(1), Guesser([3, -1], 1)][:drawn.below(4)], drawn.below(5))
            low, high = drawn.below(depth), drawn.between(1, depth)
            many = drawn.item([1, 2, 4, 6, 8, 16])
            row = [drawn.samples(1, drawn.item([high, max(1, high - 3), depth]))[0] >> low << low for _ in range(many)]
            row = [0] * many if drawn.below(9) == 0 else row
            size, kind, ways = self.least_by_words(settings, depth, row)
            self.assertEqual(least_block(settings, Sound(depth, [row]), 0, many), (size, (many, 0, [kind])))
            for other in ways[1:]:
                if kind[0] == other[0] == "guessed":
                    ties["guesser" if kind[1] != other[1] else "low" if kind[2] != other[2] else "parts"] = True
                else:
                    ties[kind[0] + other[0]] = True
        # Among these there are ties of all sorts, so that the first one of them has to be told.
        self.assertEqual(sorted(ties), ["guesser", "low", "parts", "plainguessed", "stillguessed", "stillplain"])

    def test_no_samples(self):
        for settings in SETTINGS:
            sound = Sound(5, [[] for _ in range(settings.ways())])
            self.assertEqual(least_plan(settings, sound), (27, []))
            self.assertEqual(prices(settings, sound), [27])
            self.assertIs(is_prices(settings, sound, [27]), True)
            self.assertIs(is_prices(settings, sound, [26]), False)
            self.assertEqual(spare(settings, sound, []), 0)
            with self.assertRaises(InvalidNumber):
                least_block(settings, sound, 0, 1)

    def test_lengths_that_do_not_add_up(self):
        settings = Settings([3, 6], [Mixer(1, [])], [steps(1)], 0)
        for many in (1, 2, 4, 5, 7, 8):
            sound = Sound(3, [[1] * many])
            self.assertIsNone(least_plan(settings, sound))
            self.assertEqual([price is None for price in prices(settings, sound)], [at % 3 != 0 for at in range(many + 1)])
            self.assertIsNone(spare(settings, sound, [(many, 0, [("plain",)])]))
            self.assertEqual(how_many_plans(settings, sound, None), 0)
            self.assertEqual(how_many_plans(settings, sound, 2000), 0)
            with self.assertRaises(InvalidNumber):
                plan_at(settings, sound, 0)


class Prices(unittest.TestCase):

    def by_words(self, settings, sound):
        told = []
        for many in range(sound.many() + 1):
            head = Sound(sound.depth(), [way[:many] for way in sound.ways()])
            plans = plans_of(settings, head)
            told.append(min((size for size, _ in plans), default=None))
        return told

    def is_right(self, settings, sound, value):
        """Whether a list of numbers and None is prices, by the words of the document."""
        let = self.by_words(settings, sound)
        if len(value) != len(let) or any((one is None) != (price is None) for one, price in zip(value, let)) or value[0] != 27:
            return False
        for place, length in itertools.product(range(sound.many()), settings.lengths()):
            if place + length <= sound.many() and value[place] is not None:
                least = min(size for size, _ in blocks_of(settings, sound, place, length))
                if value[place + length] > value[place] + least:
                    return False
        return True

    def test_prices_and_their_judge(self):
        drawn = Drawn(830)
        for settings, sound in list(small_sounds())[::5]:
            told = prices(settings, sound)
            self.assertEqual(told, self.by_words(settings, sound))
            self.assertIs(is_prices(settings, sound, told), True)
            for at in range(len(told)):
                for other in [None, 27] + ([told[at] + by for by in (-50, -1, 1, 80)] if told[at] is not None else []):
                    bent = told[:at] + [other] + told[at + 1:]
                    self.assertIs(is_prices(settings, sound, bent), self.is_right(settings, sound, bent), (told, bent))
            for _ in range(4):
                bent = [price if price is None or at == 0 else price - drawn.below(30) for at, price in enumerate(told)]
                self.assertIs(is_prices(settings, sound, bent), self.is_right(settings, sound, bent))
            for bent in (told[:-1], told + [None], told + [27], [27.0] + told[1:], tuple(told), None, [str(one) for one in told]):
                self.assertIs(is_prices(settings, sound, bent), False)

    def test_no_plan_is_smaller_than_the_last_number(self):
        settings, sound = SETTINGS[0], Sound(2, [[1, -2, 0]])
        least = least_plan(settings, sound)[0]
        for row in itertools.product(range(60, 120, 7), range(100, 200, 9), range(150, 220, 5)):
            value = [27] + list(row)
            if is_prices(settings, sound, value):
                self.assertLessEqual(value[-1], least)

    def test_spare(self):
        for settings, sound in list(small_sounds())[::4]:
            every = plans_of(settings, sound, [1, 2, 3])[::97]
            told = least_plan(settings, sound)
            for size, plan in every:
                self.assertEqual(spare(settings, sound, plan), None if told is None else size - told[0])
        settings = Settings([1], [Mixer(1, [])], [], 0)
        self.assertEqual(spare(settings, Sound(4, [[3, 3]]), [(2, 0, [("still",)])]), -73)


class Orders(unittest.TestCase):

    def test_all_plans_in_order(self):
        for settings, sound in small_sounds():
            plans = plans_of(settings, sound)
            if len(plans) > 3000:
                plans_to_look_at = list(range(0, len(plans), len(plans) // 60)) + [len(plans) - 1]
            else:
                plans_to_look_at = range(0, len(plans), 1 + len(plans) // 60)
            self.assertEqual(how_many_plans(settings, sound, None), len(plans))
            for number in plans_to_look_at:
                self.assertEqual(plan_at(settings, sound, number), plans[number][1])
                self.assertEqual(plan_number(settings, sound, plans[number][1]), number)
            for number in (len(plans), len(plans) + 1, 10 ** 29):
                with self.assertRaises(InvalidNumber) as caught:
                    plan_at(settings, sound, number)
                self.assertEqual(caught.exception.value, number)
            counts = {}
            for size, _ in plans:
                counts[size] = counts.get(size, 0) + 1
            for size in sorted({0, 26, 27, 28, 100, 112, 2000} | set(list(counts)[:20])):
                if size <= 2000:
                    wanted = sum(many for one, many in counts.items() if one <= size)
                    self.assertEqual(how_many_plans(settings, sound, size), wanted)

    def test_the_first_and_the_last_plan(self):
        settings, sound = Settings([2, 4], [Mixer(1, [])] * 2, [steps(1), steps(2)], 2), Sound(3, [[1, 1, 2, -4]])
        many = how_many_plans(settings, sound, None)
        self.assertEqual(plan_at(settings, sound, 0), [(2, 0, [("still",)]), (2, 0, [("plain",)])])
        self.assertEqual(plan_at(settings, sound, many - 1), [(4, 1, [("guessed", 1, 0, [3, 3, 3, 3])])])
        self.assertEqual(plan_number(settings, sound, plan_at(settings, sound, many - 1)), many - 1)

    def test_sounds_of_no_samples(self):
        settings, sound = SETTINGS[0], Sound(4, [[]])
        self.assertEqual([how_many_plans(settings, sound, size) for size in (None, 0, 26, 27, 2000)], [1, 0, 0, 1, 1])
        self.assertEqual(plan_at(settings, sound, 0), [])
        self.assertEqual(plan_number(settings, sound, []), 0)

    def test_plans_that_are_not_let_have_no_number(self):
        settings, sound = Settings([2], [Mixer(1, [])], [], 0), Sound(4, [[1, 1, 1, 1]])
        for plan in ([(4, 0, [("plain",)])], [(1, 0, [("plain",)])] * 4, [(2, 0, [("plain",)]), (1, 0, [("plain",)]), (1, 0, [("plain",)])]):
            self.assertTrue(fits(settings, sound, plan))
            with self.assertRaises(InvalidPlan) as caught:
                plan_number(settings, sound, plan)
            self.assertIs(caught.exception.value, plan)

    def test_drawn_numbers(self):
        drawn = Drawn(840)
        for _ in range(15):
            ways = drawn.between(1, 3)
            mixers = [Mixer(ways, [])] * drawn.between(1, 3)
            settings = Settings(drawn.item([[2, 4], [1, 3], [4, 8]]), mixers, [steps(1), Guesser([1, 3], 2)], 2)
            sound = Sound(6, [[sample & -2 for sample in drawn.samples(8, 6)] for _ in range(ways)])
            many = how_many_plans(settings, sound, None)
            numbers = sorted([0, many - 1] + [drawn.below(many) for _ in range(6)])
            told = [plan_at(settings, sound, number) for number in numbers]
            self.assertEqual([plan_number(settings, sound, plan) for plan in told], numbers)
            keys = [[(length, mixer, [(["still", "plain", "guessed"].index(kind[0]), kind[1:3], len(kind) > 1 and len(kind[3]), kind[3:])
                                      for kind in kinds]) for length, mixer, kinds in plan] for plan in told]
            self.assertEqual(keys, sorted(keys))
            for plan in told:
                self.assertTrue(fits(settings, sound, plan))

    def test_counts_by_size_grow_to_all(self):
        drawn = Drawn(841)
        settings = Settings([2, 4], [Mixer(2, []), LIFT], [steps(1)], 2)
        sound = Sound(4, [drawn.samples(8, 4) for _ in range(2)])
        counts = [how_many_plans(settings, sound, size) for size in range(0, 2001, 40)]
        self.assertEqual(counts, sorted(counts))
        self.assertEqual(counts[-1], how_many_plans(settings, sound, None))
        least = least_plan(settings, sound)[0]
        self.assertEqual(how_many_plans(settings, sound, least - 1), 0)
        self.assertGreater(how_many_plans(settings, sound, least), 0)


class Sizes(unittest.TestCase):

    def sizes_by_words(self, settings, sound):
        """How many plans have each size, block by block, by dicts alone."""
        behind = {sound.many(): {0: 1}}
        for place in range(sound.many() - 1, -1, -1):
            behind[place] = {}
            for length in settings.lengths():
                if place + length <= sound.many():
                    for size, _ in blocks_of(settings, sound, place, length):
                        for more, many in behind[place + length].items():
                            behind[place][size + more] = behind[place].get(size + more, 0) + many
        return {size + 27: many for size, many in behind[0].items()}

    def test_many_sizes(self):
        drawn = Drawn(842)
        for settings, depth, many in ((Settings([1, 2], [Mixer(1, [])], [steps(1)], 1), 8, 8),
                                      (Settings([1], [Mixer(2, []), LIFT], [steps(0)], 0), 6, 8),
                                      (Settings([4], [Mixer(1, [])], [steps(0)], 2), 7, 12)):
            sound = Sound(depth, [drawn.samples(many, depth) for _ in range(settings.ways())])
            told = self.sizes_by_words(settings, sound)
            self.assertEqual(how_many_plans(settings, sound, None), sum(told.values()))
            for size in list(range(min(told) - 2, min(told) + 60, 7)) + [900, 1200, 1600, 2000]:
                wanted = sum(count for one, count in told.items() if one <= size)
                self.assertEqual(how_many_plans(settings, sound, size), wanted)


class Bounds(unittest.TestCase):

    def test_all_sounds_and_plans_come_to_at_most_one(self):
        settings = Settings([1, 2], [Mixer(1, [])], [steps(1)], 1)
        for depth, many in ((1, 1), (1, 2), (2, 1), (2, 2)):
            total, leasts = Fraction(0), []
            for row in itertools.product(range(-2 ** (depth - 1), 2 ** (depth - 1)), repeat=many):
                sound = Sound(depth, [list(row)])
                total += sum(Fraction(1, 2 ** (size - 27)) for size, _ in plans_of(settings, sound, [1, 2]))
                leasts.append(least_plan(settings, sound)[0])
            self.assertLessEqual(total, 1)
            self.assertGreaterEqual(Fraction(sum(leasts), len(leasts)), 27 + depth * many)


class Limits(unittest.TestCase):

    def test_the_limits_are_reached(self):
        begin = time.monotonic()
        drawn = Drawn(890)
        lengths = [8, 12, 16, 24, 36, 48]
        for ways, mixers, guessers, depth in ((1, 1, 9, 24), (4, 1, 0, 20), (2, 2, 0, 12)):
            settings = Settings(lengths, [Mixer(ways, [])] * mixers, [Guesser([2, -1] * 4, at) for at in range(guessers)], 4)
            for low in (0, 7):
                sound = Sound(depth, [[sample >> low << low for sample in drawn.samples(60, depth)] for _ in range(ways)])
                told = prices(settings, sound)
                self.assertEqual(told[-1], least_plan(settings, sound)[0])
                self.assertTrue(is_prices(settings, sound, told))
        self.assertLess(time.monotonic() - begin, 20)

    def test_the_limits_of_counts(self):
        begin = time.monotonic()
        drawn = Drawn(891)
        for ways, mixers, guessers, lengths in ((1, 1, 16, [1, 2, 4, 8, 12, 24]), (4, 1, 4, [4, 8, 12, 16, 20, 24]), (2, 8, 1, [4, 8, 24])):
            settings = Settings(lengths, [Mixer(ways, [])] * mixers, [Guesser([2, -1] * 4, at % 16) for at in range(guessers)], 2)
            sound = Sound(8, [drawn.samples(24, 8) for _ in range(ways)])
            many = how_many_plans(settings, sound, None)
            self.assertLessEqual(how_many_plans(settings, sound, 2000), many)
            for number in (0, many // 3, many - 1):
                self.assertEqual(plan_number(settings, sound, plan_at(settings, sound, number)), number)
        self.assertLess(time.monotonic() - begin, 20)


if __name__ == "__main__":
    unittest.main()
