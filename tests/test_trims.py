"""[106]: ways taken out of sounds, samples doubled and halved, still stretches and what is left of them."""

import itertools
import unittest

from wholesound.edits import Edit, told
from wholesound.errors import InvalidItem, InvalidNumber, NotDivisible
from wholesound.sounds import Sound
from wholesound.trims import lowered, raised, stills, trimmed, ways_of

from tests.drawn import Drawn


class Ways(unittest.TestCase):

    def test_all_orders_of_three_ways(self):
        sound = Sound(4, [[1, 2], [3, 4], [5, 6]])
        for many in range(1, 5):
            for which in itertools.product(range(3), repeat=many):
                self.assertEqual(ways_of(sound, list(which)), Sound(4, [sound.way(at) for at in which]))

    def test_ways_told_twice_are_apart(self):
        ways = ways_of(Sound(4, [[1, 2]]), [0, 0]).ways()
        ways[0].append(3)
        self.assertEqual(ways[1], [1, 2])

    def test_the_first_wrong_item(self):
        for which, at in (([0, 3, -1], 1), ([0, True], 1), ([None, 0], 0), ([0, 1, 2, 3], 3)):
            with self.assertRaises(InvalidItem) as caught:
                ways_of(Sound(4, [[]] * 3), which)
            self.assertIs(caught.exception.value, which[at])


class Raised(unittest.TestCase):

    def test_all_samples_of_small_depths(self):
        for depth in range(1, 5):
            ways = [list(range(-2 ** (depth - 1), 2 ** (depth - 1)))] * 2
            for many in range(5):
                up = raised(Sound(depth, ways), many)
                self.assertEqual(up, Sound(depth + many, [[sample * 2 ** many for sample in way] for way in ways]))
                self.assertEqual(lowered(up, many), Sound(depth, ways))

    def test_all_that_can_be_lowered_and_all_that_cannot(self):
        for row in itertools.product(range(-8, 8), repeat=2):
            sound = Sound(4, [list(row), [0, 0]])
            for many in range(4):
                wrong = [place for place, sample in enumerate(row) if sample % 2 ** many]
                if wrong:
                    with self.assertRaises(NotDivisible) as caught:
                        lowered(sound, many)
                    self.assertEqual((caught.exception.place, type(caught.exception.place)), (wrong[0], int))
                else:
                    self.assertEqual(raised(lowered(sound, many), many), sound)

    def test_the_first_place_of_all_ways(self):
        for ways, place in (([[2, 2, 1], [2, 3, 2]], 1), ([[2, 1, 2], [2, 2, 3]], 1), ([[2, 2], [1, 2]], 0), ([[0], [0], [1]], 0)):
            with self.assertRaises(NotDivisible) as caught:
                lowered(Sound(4, ways), 1)
            self.assertEqual(caught.exception.place, place)

    def test_depths_beyond_24_and_down_to_1(self):
        self.assertEqual(raised(Sound(1, [[-1, 0]]), 23), Sound(24, [[-2 ** 23, 0]]))
        self.assertEqual(lowered(Sound(24, [[-2 ** 23, 0]]), 23), Sound(1, [[-1, 0]]))
        self.assertRaises(InvalidNumber, raised, Sound(1, [[]]), 24)
        self.assertRaises(InvalidNumber, raised, Sound(24, [[]]), 1)
        self.assertRaises(InvalidNumber, lowered, Sound(24, [[]]), 24)
        self.assertRaises(InvalidNumber, lowered, Sound(1, [[]]), 1)
        self.assertEqual((raised(Sound(24, [[5]]), 0), lowered(Sound(1, [[0]]), 0)), (Sound(24, [[5]]), Sound(1, [[0]])))


def stills_slowly(sound, loud, many):
    quiet = [all(-loud <= sample <= loud for sample in moment) for moment in zip(*sound.ways())]
    found, place = [], 0
    for is_quiet, group in itertools.groupby(quiet):
        count = len(list(group))
        if is_quiet and count >= many:
            found.append((place, count))
        place += count
    return found


class Stills(unittest.TestCase):

    def look(self, sound, loud, many):
        found = stills_slowly(sound, loud, many)
        self.assertEqual(stills(sound, loud, many), found)
        for left in range(min(many, 4)):
            edit = trimmed(sound, loud, many, left)
            gone = {place for first, count in found for place in range(first + left, first + count)}
            wanted = [place for place in range(sound.many()) if place not in gone]
            self.assertEqual([edit.came_from(at) for at in range(edit.length())], [(0, place) for place in wanted])
            self.assertEqual((edit.lengths(), edit.ways()), ([sound.many()], len(sound.ways())))
            self.assertEqual(told(edit, [sound]), Sound(sound.depth(), [[way[place] for place in wanted] for way in sound.ways()]))

    def test_all_small_sounds(self):
        for length in range(6):
            for row in itertools.product((0, -2, 1), repeat=length):
                for loud, many in itertools.product(range(3), range(1, 4)):
                    self.look(Sound(4, [list(row)]), loud, many)

    def test_drawn_sounds_of_several_ways(self):
        drawn = Drawn(106)
        for _ in range(60):
            ways = [drawn.numbers(20, -3, 3) for _ in range(1, 4)]
            self.look(Sound(4, ways[:drawn.between(1, 3)]), drawn.below(4), drawn.between(1, 5))

    def test_quiet_all_over_and_nowhere(self):
        quiet, noisy = Sound(4, [[0] * 9]), Sound(4, [[1] * 9])
        self.assertEqual((stills(quiet, 0, 9), stills(quiet, 0, 10), stills(noisy, 0, 1)), ([(0, 9)], [], []))
        self.assertEqual(trimmed(quiet, 0, 1, 0), Edit([9], 1, []))
        self.assertEqual(trimmed(quiet, 0, 9, 8), Edit([9], 1, [("keep", 0, 0, 8)]))
        self.assertEqual(trimmed(noisy, 0, 1, 0), Edit([9], 1, [("keep", 0, 0, 9)]))
        self.assertEqual(trimmed(noisy, 10 ** 29, 1, 0), Edit([9], 1, []))
        self.assertEqual((stills(Sound(4, [[]]), 0, 1), trimmed(Sound(4, [[]]), 0, 1, 0)), ([], Edit([0], 1, [])))


class Limits(unittest.TestCase):

    def test_sounds_of_4095_moments(self):
        sound = Sound(24, [[0, 1] * 2047 + [0]] * 4)
        self.assertEqual(len(stills(sound, 0, 1)), 2048)
        self.assertEqual(told(trimmed(sound, 0, 1, 0), [sound]), Sound(24, [[1] * 2047] * 4))
        self.assertEqual(len(trimmed(sound, 0, 1, 0).pieces()), 2047)
        self.assertEqual(trimmed(sound, 1, 4095, 4094).pieces(), [("keep", 0, 0, 4094)])
        deep = Sound(2, [[-2, 1] * 2047] * 4)
        self.assertEqual(lowered(raised(deep, 22), 22), deep)
        self.assertEqual(ways_of(sound, [3, 3, 0, 0]), sound)


if __name__ == "__main__":
    unittest.main()
