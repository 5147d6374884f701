"""The examples of the document, as they stand there, with the answers that stand behind them."""

import unittest

EXAMPLES = '''
from wholesound.sounds import Sound, bits_number, fold, joined, number_bits, part, unfold, wrap
[wrap(9, 4), wrap(-8, 4), wrap(24, 4), fold(3), fold(-3), unfold(5), unfold(6)]
# [-7, -8, -8, 6, 5, -3, 3]
sound = Sound(4, [[3, 3, 5, 6], [0, -8, 7, 1]])
[sound.depth(), sound.many(), sound.way(1), part(sound, 1, 3).ways(), joined(part(sound, 0, 1), part(sound, 1, 4)) == sound]
# [4, 4, [0, -8, 7, 1], [[3, 5], [-8, 7]], True]
[number_bits(6, 4), number_bits(0, 0), bits_number("0110")]
# ['0110', '', 6]

from wholesound.guessers import Guesser, guess, rests, steps
second, half = steps(2), Guesser([3], 1)
[second.weights(), guess(second, [4, 6]), guess(half, [5]), guess(half, [-5]), rests(second, 4, [1, 3, 6, 7])]
# [[2, -1], 8, 7, -8, [1, 3, 1, -2]]

from wholesound.guessers import Guesser, after, bits_enough, bounds, parting_row, row_of, same_guess, steps
[row_of(steps(2), 4, [1, 3, 1, -2]), same_guess(Guesser([6, 0], 2), Guesser([3], 1)), parting_row(Guesser([3], 1), Guesser([5], 2)), bounds(steps(2), 4), bits_enough(steps(1), 16), after(steps(1), steps(1))]
# [[1, 3, 6, 7], True, [2], (-30, 30), 17, [2, -1]]

from wholesound.guessers import Guesser
from wholesound.weights import best_weight, is_best_weight
[best_weight([2, 1, 0, 0])[0], best_weight([1, 2, 1])[0], best_weight([1, 2, 1])[2], is_best_weight([1, 2, 1], (1, Guesser([1], 0), [1, 2]))]
# [0, 1, [1, 2], True]

from wholesound.guessers import Guesser, steps
from wholesound.healing import healed_at, most_spoilt, spoilt, spoilt_by_bit
[spoilt(Guesser([2], 0), 2, 3, 1, 8), spoilt(steps(1), 4, 1, 1, 4), spoilt_by_bit(Guesser([2], 0), 3, 1, 2, 6)]
# [[(3, 1), (4, -2)], [(1, 1), (2, 1), (3, 1)], [1, 2]]
[healed_at(Guesser([2], 0), 2, 3, 1), healed_at(steps(1), 4, 1, 1), healed_at(Guesser([1, 0], 0), 4, 0, 1), most_spoilt(Guesser([0, 2], 0), 2)]
# [5, None, 1, 3]

from wholesound.ever import alike_from, first_parted, is_told, longest_period, period, returning, sample_at
[sample_at(4, [1, 1], [0, 1], 10), is_told(4, [1, 1], [0, 1, 1, 2, 3, 5, -8]), alike_from(2, [2], [1], [], [])]
# [7, True, 2]
[first_parted(4, [1, 1], [0, 1], [2, 0, -1], [0, 1, 1]), period(4, [1, 1], [0, 1]), longest_period(2, [2]), returning(2, [3], 1)]
# [None, (0, 24), (2, 1), 2]

from wholesound.ever import is_shortest, leads_all, shortest
[leads_all(3, [1], [2, -1]), leads_all(3, [2, -1], [1]), shortest(3, [1, 2, -4, 0, 0])[:2], is_shortest(3, [2, 1], (2, [0, 0], [-4]))]
# [None, ([0, -1], 1), (1, [2]), True]

from wholesound.ever import how_many_rules, is_next_paper, is_shortest_whole, next_samples
[next_samples(2, [-2, -2], 1), next_samples(2, [-2, 1, 1], 2), how_many_rules(2, [-2, -2], 1)]
# [(2, 2), (0, 0), 2]
[is_next_paper(2, [-2, 1, 1], 2, (0, 0, [1, 0], [0], [-2, -1])), is_shortest_whole([2, 1], (2, [0, 0], [(1, 2)]))]
# [True, True]

from wholesound.lifts import comes_back, fewest_lifts, lifts_for
from wholesound.mixers import Mixer, joined_mixers, matrix, mixed, mixed_within, tidy, undoing
from wholesound.mixing import commute, enough, misses, on_the_way, parted_samples, ranges, same_within
side = Mixer(2, [("lift", 1, [-1, 0], 0), ("lift", 0, [0, 1], 1)])
[mixed(side, [5, 8]), mixed_within(side, 4, [-8, 7]), matrix(side)[0], misses(side)[0][0], enough(side, 16), on_the_way(side, 16)]
# [[6, 3], [7, -1], [(1, 2), (1, 2)], (-1, 2), [16, 17], 17]
down, whole = Mixer(2, [("lift", 0, [0, 1], 1)]), Mixer(2, [("lift", 0, [0, 1], 0)])
up = Mixer(2, [("turn", 0), ("lift", 0, [0, -1], 1), ("turn", 0)])
[parted_samples(down, up), same_within(down, whole, 1), commute(down, whole), commute(down, Mixer(2, [("turn", 1)]))]
# [[-1, -1], True, True, False]
[ranges(joined_mixers(down, undoing(up)), [(0, 0), (0, 2)])[0][:3], undoing(side).steps()]
# [(-1, [0, 1], 0), [('turn', 0), ('lift', 0, [0, 1], 1), ('turn', 0), ('lift', 1, [1, 0], 0)]]
[tidy(Mixer(2, [("lift", 0, [0, 3], 0), ("lift", 0, [0, 1], 1), ("turn", 1), ("turn", 1)])).steps(), fewest_lifts([[3, 4], [2, 3]])]
# [[('lift', 0, [0, 7], 1)], 3]
[matrix(lifts_for([[5, 2], [2, 1]])), comes_back(Mixer(2, [("lift", 0, [0, -1], 0), ("lift", 1, [1, 0], 0)])), comes_back(whole)]
# [[[(5, 1), (2, 1)], [(2, 1), (1, 1)]], 6, None]

from wholesound.shares import how_many_least, how_many_like, least_width, loss, mean_least, possible_widths, price
from wholesound.shares import row_of_counts, safest
[price([0, 3], 1), how_many_like([0, 3]), row_of_counts(3, [2, 0, 1]), least_width([1, 3]), least_width([2, 2]), possible_widths(2, 4)]
# [5, 4, [5, 1, 0], (5, 1, 1), (6, 0, 2), (0, 1)]
[loss(2, 6, 0), safest(2, 6), how_many_least(1, 2, 3), mean_least(1, 2)]
# [2, (1, 0), 2, (9, 4)]
'''


class Examples(unittest.TestCase):

    def test_each_line_tells_its_answer(self):
        seen = 0
        for example in EXAMPLES.strip().split("\n\n"):
            names, last = {}, ""
            for line in example.split("\n"):
                if line.startswith("# "):
                    self.assertEqual(repr(eval(last, names)), line[2:], last)
                    seen += 1
                elif line.startswith("["):
                    last = line
                else:
                    exec(line, names)
        self.assertEqual(seen, EXAMPLES.count("\n# "))


if __name__ == "__main__":
    unittest.main()
