"""[70]: settings, how wide mixed samples are, and which depths and sounds are reached."""

import unittest

from wholesound.errors import Unlike
from wholesound.guessers import Guesser, steps
from wholesound.mixers import Mixer, mixed
from wholesound.mixing import enough
from wholesound.blocks import Bench, bench_for
from wholesound.settings import Settings, wide
from wholesound.sounds import Sound

SIDE = Mixer(2, [("lift", 1, [-1, 0], 0), ("lift", 0, [0, 1], 1)])
PLAIN = Mixer(2, [])


class OneSettings(unittest.TestCase):

    def test_they_tell_what_they_were_made_of(self):
        settings = Settings([2, 40], [PLAIN, SIDE], [steps(1), Guesser([3], 1)], 3)
        self.assertEqual((settings.lengths(), settings.mixers(), settings.guessers(), settings.parts(), settings.ways()),
                         ([2, 40], [PLAIN, SIDE], [steps(1), Guesser([3], 1)], 3, 2))
        for many in range(1, 5):
            self.assertEqual(Settings([1], [Mixer(many, [])], [], 0).ways(), many)

    def test_edges(self):
        six = Settings([1, 2, 3, 4, 5, 4095], [Mixer(1, [])] * 8, [steps(2)] * 16, 4)
        self.assertEqual((len(six.lengths()), len(six.mixers()), len(six.guessers()), six.parts()), (6, 8, 16, 4))
        self.assertEqual(Settings([4095], [PLAIN], [], 0).guessers(), [])

    def test_handed_and_returned_lists_change_nothing(self):
        lengths, mixers, guessers = [2, 3], [PLAIN], [steps(1)]
        settings = Settings(lengths, mixers, guessers, 0)
        for one in (lengths, mixers, guessers, settings.lengths(), settings.mixers(), settings.guessers()):
            one.append(7)
            one[0] = None
        self.assertEqual((settings.lengths(), settings.mixers(), settings.guessers()), ([2, 3], [PLAIN], [steps(1)]))

    def test_equal(self):
        parts = ([2, 3], [PLAIN, SIDE], [steps(1)], 2)
        settings = Settings(*parts)
        self.assertTrue(settings == Settings(*parts))
        for other in (Settings([2], *parts[1:]), Settings([2, 3], [SIDE, PLAIN], [steps(1)], 2),
                      Settings([2, 3], [PLAIN], [steps(1)], 2), Settings([2, 3], [PLAIN, SIDE], [], 2),
                      Settings([2, 3], [PLAIN, SIDE], [Guesser([2], 1)], 2), Settings(*parts[:3], 1)):
            self.assertFalse(settings == other)
        for odd in (None, parts, list(parts), PLAIN, 0):
            self.assertFalse(settings == odd)


class Wide(unittest.TestCase):

    def test_by_all_samples(self):
        settings = Settings([1], [PLAIN, SIDE, Mixer(2, [("turn", 0), ("lift", 1, [3, 0], 1)])], [], 0)
        for depth in range(1, 6):
            samples = range(-2 ** (depth - 1), 2 ** (depth - 1))
            told = wide(settings, depth)
            for mixer, bits in zip(settings.mixers(), told):
                self.assertEqual(bits, enough(mixer, depth))
                for way in range(2):
                    out = [mixed(mixer, [one, other])[way] for one in samples for other in samples]
                    fits = [least for least in range(1, 20) if -2 ** (least - 1) <= min(out) and max(out) < 2 ** (least - 1)]
                    self.assertEqual(bits[way], fits[0])
        self.assertEqual(wide(Settings([1], [Mixer(1, [])], [], 0), 24), [[24]])

    def test_depths_that_are_reached(self):
        far = Mixer(2, [("lift", 0, [0, 2 ** 14], 0)])
        settings = Settings([1], [PLAIN, far], [], 0)
        for depth in range(1, 25):
            most = max(max(bits) for bits in wide(settings, depth))
            self.assertIs(Bench(settings, depth).reached(), most <= 32)
        told = [depth for depth in range(1, 25) if Bench(settings, depth).reached()]
        self.assertEqual(told, list(range(1, told[-1] + 1)))
        self.assertEqual(max(wide(settings, told[-1])[1]), 32)

    def test_sounds_that_suit(self):
        far = Settings([1], [PLAIN, Mixer(2, [("lift", 0, [0, 2 ** 14], 0)])], [], 0)
        bench_for(far, Sound(17, [[], []]))
        for sound in (Sound(18, [[], []]), Sound(24, [[1], [1]]), Sound(4, [[1]]), Sound(4, [[1]] * 3)):
            with self.assertRaises(Unlike) as caught:
                bench_for(far, sound)
            self.assertIs(caught.exception.value, sound)


if __name__ == "__main__":
    unittest.main()
