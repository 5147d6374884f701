"""Promises [6] to [8]: samples, sounds, and numbers told by bits."""

import unittest

from wholesound.errors import InvalidBits, InvalidList, InvalidNumber, InvalidRow, Unlike
from wholesound.guessers import Guesser
from wholesound.mixers import Mixer
from wholesound.sounds import Sound, bits_number, fold, joined, number_bits, part, unfold, wrap

from tests.drawn import Drawn
from tests.odd import no_samples, numbers_but, things


class Samples(unittest.TestCase):

    def test_wrap_tells_the_one_sample_that_agrees(self):
        for depth in range(1, 7):
            samples = range(-2 ** (depth - 1), 2 ** (depth - 1))
            for number in range(-200, 200):
                agreeing = [sample for sample in samples if (number - sample) % 2 ** depth == 0]
                self.assertEqual([wrap(number, depth)], agreeing)

    def test_wrap_of_great_numbers_at_all_depths(self):
        drawn = Drawn(6)
        for depth in range(1, 41):
            for number in drawn.numbers(20, -10 ** 30 + 1, 10 ** 30 - 1) + [2 ** (depth - 1), -2 ** (depth - 1) - 1]:
                sample = wrap(number, depth)
                self.assertTrue(-2 ** (depth - 1) <= sample <= 2 ** (depth - 1) - 1)
                self.assertEqual((sample - number) % 2 ** depth, 0)

    def test_fold_by_its_words(self):
        for number in list(range(-1000, 1000)) + [10 ** 30 - 1, 1 - 10 ** 30]:
            self.assertEqual(fold(number), 2 * number if number >= 0 else -2 * number - 1)
            self.assertEqual(unfold(fold(number)), number)

    def test_unfold_leads_back_all_counts(self):
        for count in list(range(2000)) + [10 ** 30 - 1, 10 ** 30 - 2]:
            self.assertEqual(fold(unfold(count)), count)

    def test_samples_of_a_depth_have_the_first_folds(self):
        for depth in range(1, 9):
            samples = range(-2 ** (depth - 1), 2 ** (depth - 1))
            self.assertEqual(sorted(fold(sample) for sample in samples), list(range(2 ** depth)))


class Sounds(unittest.TestCase):

    def test_tells_what_it_was_made_of(self):
        for depth in (1, 2, 16, 24):
            low, high = -2 ** (depth - 1), 2 ** (depth - 1) - 1
            for ways in ([[]], [[low]], [[high, low], [0, 0]], [[], [], []], [[low], [high], [0], [-1]]):
                sound = Sound(depth, ways)
                self.assertEqual(sound.depth(), depth)
                self.assertEqual(sound.ways(), ways)
                self.assertEqual(sound.many(), len(ways[0]))
                for at, way in enumerate(ways):
                    self.assertEqual(sound.way(at), way)

    def test_the_longest_sound(self):
        way = [at % 2 for at in range(4095)]
        self.assertEqual(Sound(2, [way] * 4).many(), 4095)
        longer = way + [0]
        for ways in ([longer], [longer, way]):
            with self.assertRaises(InvalidRow) as caught:
                Sound(2, ways)
            self.assertIs(caught.exception.value, longer)

    def test_ways_are_copied_in_and_out(self):
        ways = [[1, 2], [3, 4]]
        sound = Sound(4, ways)
        ways[0][0] = 7
        ways.append([5, 6])
        self.assertEqual(sound.ways(), [[1, 2], [3, 4]])
        sound.ways()[1][0] = 7
        sound.ways().pop()
        sound.way(0).append(5)
        self.assertEqual(sound.ways(), [[1, 2], [3, 4]])
        same = [1, 2]
        told = Sound(4, [same, same]).ways()
        self.assertIsNot(told[0], told[1])

    def test_way_is_refused_where_there_is_none(self):
        sound = Sound(4, [[1], [2]])
        for at in numbers_but(0, 1):
            with self.assertRaises(InvalidNumber) as caught:
                sound.way(at)
            self.assertIs(caught.exception.value, at)

    def test_first_wrong_way_is_told(self):
        short, none = [1], None
        for ways, told in (([[1, 2], short, none], short), ([[1, 2], none, short], none), ([none, short], none)):
            with self.assertRaises(InvalidRow) as caught:
                Sound(4, ways)
            self.assertIs(caught.exception.value, told)

    def test_ways_have_samples_of_the_depth(self):
        for depth in (1, 2, 24):
            for bad in no_samples(depth):
                with self.assertRaises(InvalidRow) as caught:
                    Sound(depth, [bad])
                self.assertIs(caught.exception.value, bad)

    def test_numbers_of_ways(self):
        for many in (0, 5, 6):
            ways = [[0]] * many
            with self.assertRaises(InvalidList) as caught:
                Sound(4, ways)
            self.assertIs(caught.exception.value, ways)

    def test_equality(self):
        sound = Sound(4, [[1, 2], [3, 4]])
        self.assertTrue(sound == Sound(4, [[1, 2], [3, 4]]))
        self.assertFalse(sound != Sound(4, [[1, 2], [3, 4]]))
        others = [Sound(5, [[1, 2], [3, 4]]), Sound(4, [[1, 2], [3, 5]]), Sound(4, [[1, 2]]), Sound(4, [[3, 4], [1, 2]]),
                  Sound(4, [[1], [3]]), Sound(4, [[1, 2], [3, 4], [3, 4]])]
        for other in others + things() + [[[1, 2], [3, 4]], 4, Guesser([], 0), Mixer(2, [])]:
            self.assertFalse(sound == other)
            self.assertFalse(other == sound)
            self.assertTrue(sound != other)
        self.assertFalse(Sound(4, [[]]) == Sound(4, [[], []]))

    def test_all_parts(self):
        ways = [[3, 3, 5, 6], [0, -8, 7, 1], [1, 2, 3, 4]]
        sound = Sound(4, ways)
        for low in range(5):
            for high in range(low, 5):
                told = part(sound, low, high)
                self.assertEqual((told.depth(), told.ways()), (4, [way[low:high] for way in ways]))
                rest = joined(joined(part(sound, 0, low), told), part(sound, high, 4))
                self.assertTrue(rest == sound)
            for high in [low - 1, 5]:
                with self.assertRaises(InvalidNumber) as caught:
                    part(sound, low, high)
                self.assertEqual(caught.exception.value, high)
        self.assertEqual(part(Sound(4, [[]]), 0, 0).ways(), [[]])

    def test_joined(self):
        one, other = Sound(4, [[1], [2]]), Sound(4, [[3, 4], [5, 6]])
        self.assertEqual(joined(one, other).ways(), [[1, 3, 4], [2, 5, 6]])
        self.assertEqual(joined(other, one).ways(), [[3, 4, 1], [5, 6, 2]])
        self.assertEqual(joined(one, one).ways(), [[1, 1], [2, 2]])
        self.assertEqual((one.ways(), other.ways()), ([[1], [2]], [[3, 4], [5, 6]]))

    def test_joined_has_at_most_the_most_samples(self):
        long, one, two = Sound(1, [[0] * 4094]), Sound(1, [[-1]]), Sound(1, [[-1, 0]])
        self.assertEqual(joined(long, one).many(), 4095)
        self.assertEqual(joined(one, long).way(0)[0], -1)
        for first, second in ((long, two), (two, long), (long, long)):
            with self.assertRaises(Unlike) as caught:
                joined(first, second)
            self.assertIs(caught.exception.value, second)


class Bits(unittest.TestCase):

    def test_all_small_numbers(self):
        for many in range(9):
            for number in range(2 ** many):
                bits = number_bits(number, many)
                self.assertEqual(bits, format(number, "b").zfill(many) if many else "")
                self.assertEqual(bits_number(bits), number)
            with self.assertRaises(InvalidNumber) as caught:
                number_bits(2 ** many, many)
            self.assertEqual(caught.exception.value, 2 ** many)

    def test_64_bits(self):
        for number in [0, 1, 2 ** 63, 2 ** 64 - 1] + Drawn(8).numbers(50, 0, 2 ** 64 - 1):
            bits = number_bits(number, 64)
            self.assertEqual((len(bits), int(bits, 2), bits_number(bits)), (64, number, number))
        for bits in ["0" * 65, "1" + "0" * 64, "1" * 100]:
            self.assertRaises(InvalidBits, bits_number, bits)
        self.assertRaises(InvalidNumber, number_bits, 2 ** 64, 64)

    def test_a_number_that_is_too_great_is_told_behind_a_wrong_many(self):
        for many in numbers_but(0, 64):
            with self.assertRaises(InvalidNumber) as caught:
                number_bits(8, many)
            self.assertIs(caught.exception.value, many)
        with self.assertRaises(InvalidNumber) as caught:
            number_bits(8, 3)
        self.assertEqual(caught.exception.value, 8)
        with self.assertRaises(InvalidNumber) as caught:
            number_bits(-1, 65)
        self.assertEqual(caught.exception.value, -1)


if __name__ == "__main__":
    unittest.main()
