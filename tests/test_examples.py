"""The examples of the document, as they stand there, with the answers that stand behind them."""

import unittest

EXAMPLES = r'''
from wholesound.sounds import Sound, bits_number, fold, joined, number_bits, part, unfold, wrap
[wrap(9, 4), wrap(-8, 4), wrap(24, 4), fold(3), fold(-3), unfold(5), unfold(6)]
# [-7, -8, -8, 6, 5, -3, 3]
sound = Sound(4, [[3, 3, 5, 6], [0, -8, 7, 1]])
[sound.depth(), sound.many(), sound.way(1), part(sound, 1, 3).ways(), joined(part(sound, 0, 1), part(sound, 1, 4)) == sound]
# [4, 4, [0, -8, 7, 1], [[3, 5], [-8, 7]], True]
[number_bits(6, 4), number_bits(0, 0), bits_number("0110")]
# ['0110', '', 6]

from wholesound.guessers import Guesser, guess, rests, steps
second, half = steps(2), Guesser([3], 1)
[second.weights(), guess(second, [4, 6]), guess(half, [5]), guess(half, [-5]), rests(second, 4, [1, 3, 6, 7])]
# [[2, -1], 8, 7, -8, [1, 3, 1, -2]]

from wholesound.guessers import Guesser, after, bits_enough, bounds, parting_row, row_of, same_guess, steps
[row_of(steps(2), 4, [1, 3, 1, -2]), same_guess(Guesser([6, 0], 2), Guesser([3], 1)), parting_row(Guesser([3], 1), Guesser([5], 2)), bounds(steps(2), 4), bits_enough(steps(1), 16), after(steps(1), steps(1))]
# [[1, 3, 6, 7], True, [2], (-30, 30), 17, [2, -1]]

from wholesound.guessers import Guesser
from wholesound.weights import best_weight, is_best_weight
[best_weight([2, 1, 0, 0])[0], best_weight([1, 2, 1])[0], best_weight([1, 2, 1])[2], is_best_weight([1, 2, 1], (1, Guesser([1], 0), [1, 2]))]
# [0, 1, [1, 2], True]

from wholesound.guessers import Guesser, steps
from wholesound.healing import healed_at, most_spoilt, spoilt, spoilt_by_bit
[spoilt(Guesser([2], 0), 2, 3, 1, 8), spoilt(steps(1), 4, 1, 1, 4), spoilt_by_bit(Guesser([2], 0), 3, 1, 2, 6)]
# [[(3, 1), (4, -2)], [(1, 1), (2, 1), (3, 1)], [1, 2]]
[healed_at(Guesser([2], 0), 2, 3, 1), healed_at(steps(1), 4, 1, 1), healed_at(Guesser([1, 0], 0), 4, 0, 1), most_spoilt(Guesser([0, 2], 0), 2)]
# [5, None, 1, 3]

from wholesound.ever import alike_from, first_parted, is_told, longest_period, period, returning, sample_at
[sample_at(4, [1, 1], [0, 1], 10), is_told(4, [1, 1], [0, 1, 1, 2, 3, 5, -8]), alike_from(2, [2], [1], [], [])]
# [7, True, 2]
[first_parted(4, [1, 1], [0, 1], [2, 0, -1], [0, 1, 1]), period(4, [1, 1], [0, 1]), longest_period(2, [2]), returning(2, [3], 1)]
# [None, (0, 24), (2, 1), 2]

from wholesound.ever import is_shortest, leads_all, shortest
[leads_all(3, [1], [2, -1]), leads_all(3, [2, -1], [1]), shortest(3, [1, 2, -4, 0, 0])[:2], is_shortest(3, [2, 1], (2, [0, 0], [-4]))]
# [None, ([0, -1], 1), (1, [2]), True]

from wholesound.ever import how_many_rules, is_next_paper, is_shortest_whole, next_samples
[next_samples(2, [-2, -2], 1), next_samples(2, [-2, 1, 1], 2), how_many_rules(2, [-2, -2], 1)]
# [(2, 2), (0, 0), 2]
[is_next_paper(2, [-2, 1, 1], 2, (0, 0, [1, 0], [0], [-2, -1])), is_shortest_whole([2, 1], (2, [0, 0], [(1, 2)]))]
# [True, True]

from wholesound.lifts import comes_back, fewest_lifts, lifts_for
from wholesound.mixers import Mixer, joined_mixers, matrix, mixed, mixed_within, tidy, undoing
from wholesound.mixing import commute, enough, misses, on_the_way, parted_samples, ranges, same_within
side = Mixer(2, [("lift", 1, [-1, 0], 0), ("lift", 0, [0, 1], 1)])
[mixed(side, [5, 8]), mixed_within(side, 4, [-8, 7]), matrix(side)[0], misses(side)[0][0], enough(side, 16), on_the_way(side, 16)]
# [[6, 3], [7, -1], [(1, 2), (1, 2)], (-1, 2), [16, 17], 17]
down, whole = Mixer(2, [("lift", 0, [0, 1], 1)]), Mixer(2, [("lift", 0, [0, 1], 0)])
up = Mixer(2, [("turn", 0), ("lift", 0, [0, -1], 1), ("turn", 0)])
[parted_samples(down, up), same_within(down, whole, 1), commute(down, whole), commute(down, Mixer(2, [("turn", 1)]))]
# [[-1, -1], True, True, False]
[ranges(joined_mixers(down, undoing(up)), [(0, 0), (0, 2)])[0][:3], undoing(side).steps()]
# [(-1, [0, 1], 0), [('turn', 0), ('lift', 0, [0, 1], 1), ('turn', 0), ('lift', 1, [1, 0], 0)]]
[tidy(Mixer(2, [("lift", 0, [0, 3], 0), ("lift", 0, [0, 1], 1), ("turn", 1), ("turn", 1)])).steps(), fewest_lifts([[3, 4], [2, 3]])]
# [[('lift', 0, [0, 7], 1)], 3]
[matrix(lifts_for([[5, 2], [2, 1]])), comes_back(Mixer(2, [("lift", 0, [0, -1], 0), ("lift", 1, [1, 0], 0)])), comes_back(whole)]
# [[[(5, 1), (2, 1)], [(2, 1), (1, 1)]], 6, None]

from wholesound.shares import how_many_least, how_many_like, least_width, loss, mean_least, possible_widths, price
from wholesound.shares import row_of_counts, safest
from wholesound.stretches import both_read, least_cuts, least_half, read_folds, turned_reading, written
[price([0, 3], 1), how_many_like([0, 3]), row_of_counts(3, [2, 0, 1]), least_width([1, 3]), least_width([2, 2]), possible_widths(2, 4)]
# [5, 4, [5, 1, 0], (5, 1, 1), (6, 0, 2), (0, 1)]
[loss(2, 6, 0), safest(2, 6), how_many_least(1, 2, 3), mean_least(1, 2), written([0, 3], 1), read_folds("0010111", 1, 2), both_read(0, 1), both_read(1, 1)]
# [2, (1, 0), 2, (9, 4), '00101', ([0, 3], '11'), ('00', [0, 0], [0]), ('00', [0], [0])]
[turned_reading([0, 3], 1, 0), least_cuts([0, 0, 7, 0, 0], 1, 5)[:2], least_half([0, 0, 7, 7], 2, 5)]
# [([3, 1], '', 5), (17, [(5, 0)]), (0, 19)]

from wholesound.allsounds import fair, gap, how_many, least_means, mean, number_of, row_at, size_bounds
from wholesound.guessers import steps
[how_many(2, 0, 2, 4), size_bounds(2, 1, 3), row_at(steps(1), 2, 0, 2, 4, 1), number_of(steps(1), 2, 0, [-1, 0]), fair(2, 0), mean(3, 1), least_means(3), gap(0, 1, 3)]
# [3, (6, 9), [-1, -2], (5, 1), (15, 16), (7, 2), [1, 2], (3, 7)]

from wholesound.checks import Check, distance, how_many_shapes, joined_word, least_unseen, longest, order, sealed
from wholesound.checks import shape_at, turned_word
from wholesound.mending import bits_with, can_fill, chance, filled_at, how_many_unseen, mends, together
three = Check(3, 3)
[three.bits(), sealed(three, "1"), sealed(three, "11"), joined_word(three, 3, 3, 1), turned_word(three, 5, [0])]
# ['1011', '1011', '11101', 5, 6]
[order(three), longest(three, 4), longest(three, 5), distance(three, 3), distance(three, 7), distance(three, 8), least_unseen(three, 4)]
# [7, 3, 3, None, 3, 2, [0, 1, 3]]
[how_many_shapes(three, 6), shape_at(three, 6, 0), shape_at(three, 6, 2), can_fill(three, [0, 1, 2]), filled_at(three, "1?1?", 0)]
# [4, [0, 2, 6], [0, 3, 5, 6], ('yes', [1, 2, 4]), '1011']
[mends(three, "1111001", 1), mends(three, "1111001", 2), how_many_unseen(three, 7, 3), chance(three, 7, 1, 2)]
# [[[4]], [[4], [0, 5], [1, 2], [3, 6]], 7, (15, 128)]
[together(Check(1, 1), three) == Check(4, 13), bits_with(Check(1, 1), three, 1, 0), bits_with(Check(4, 13), three, 1, 0)]
# [True, '1011', None]

from wholesound.guessers import steps
from wholesound.mixers import Mixer
from wholesound.settings import Settings, wide
from wholesound.sounds import Sound
from wholesound.streams import Reader, begun, block_at, fits, mended, read, sizes, write, wrong_at
settings = Settings([2, 4], [Mixer(1, [])], [steps(1)], 1)
sound = Sound(4, [[3, 3, 5, 6]])
plan = [(2, 0, [("still",)]), (2, 0, [("guessed", 0, 0, [1])])]
bits = write(settings, sound, plan)
[wide(settings, 4), sizes(settings, sound, plan), len(bits), bits[:27]]
# [[[4]], [27, 73, 94], 194, '000110000000000010001010111']
[bits[27:54], bits[54:78], bits[78:84], bits[84:100]]
# ['000000000000000000000010000', '000000000100100111111110', '000110', '1010000011101111']
[bits[100:127], bits[127:143], bits[151:178]]
# ['000000000010000000000010000', '0000000001011110', '100000000000000011111100100']
[read(settings, bits) == (sound, plan), begun(settings, bits[:110])[1:], block_at(settings, 4, bits, 27)[3], wrong_at(settings, bits), wrong_at(settings, "1" + bits[1:]), wrong_at(settings, bits + "0")]
# [True, ([(2, 0, [('still',)])], 100), 100, None, 27, 195]
[mended(settings, bits[:80] + "1" + bits[81:]) == bits, mended(settings, bits) == bits, mended(settings, bits[:100])]
# [True, True, None]
reader = Reader(settings)
[reader.feed(bits[:110]), reader.place(), reader.feed(bits[110:]), reader.done()]
# [[[3, 3]], 100, [[5, 6]], True]
[fits(settings, sound, [(4, 0, [("still",)])]), fits(settings, sound, [(3, 0, [("plain",)]), (1, 0, [("still",)])])]
# [False, True]

from wholesound.guessers import steps
from wholesound.mixers import Mixer
from wholesound.orders import how_many_plans, plan_at, plan_number
from wholesound.plans import is_prices, least_block, least_plan, prices, spare
from wholesound.settings import Settings
from wholesound.sounds import Sound
settings, sound = Settings([2, 4], [Mixer(1, [])], [steps(1)], 0), Sound(4, [[3, 3, 5, 6]])
[least_block(settings, sound, 0, 2), least_block(settings, sound, 2, 2), least_block(settings, sound, 0, 4)]
# [(73, (2, 0, [('still',)])), (77, (2, 0, [('plain',)])), (85, (4, 0, [('plain',)]))]
[least_plan(settings, sound), prices(settings, sound), is_prices(settings, sound, [27, None, 100, None, 112]), is_prices(settings, sound, [27, None, 101, None, 112])]
# [(112, [(4, 0, [('plain',)])]), [27, None, 100, None, 112], True, False]
[how_many_plans(settings, sound, None), how_many_plans(settings, sound, 112), plan_at(settings, sound, 0), plan_number(settings, sound, [(4, 0, [("plain",)])]), spare(settings, sound, [(1, 0, [("plain",)]), (3, 0, [("plain",)])])]
# [48, 1, [(2, 0, [('still',)]), (2, 0, [('plain',)])], 42, 69]

from wholesound.carriers import bare, carried, growth, growths, most_growth, parting_growth, pieces, stuffed
from wholesound.marks import borders, how_many_free, is_keepable, parting_length, rows_without
[borders("1011011"), is_keepable("100"), is_keepable("110"), [how_many_free(many) for many in range(2, 7)]]
# [[1, 4], True, False, [2, 4, 6, 12, 20]]
[[rows_without("11", many) for many in range(5)], [rows_without("10", many) for many in range(5)], parting_length("11", "10"), parting_length("101", "010")]
# [[1, 2, 3, 5, 8], [1, 2, 3, 4, 5], 3, None]
[stuffed("100", "1010"), stuffed("100", "1000"), bare("100", "101101"), growth("011", "0011"), most_growth("101100111000", 31), growths("100", 3), parting_growth("100", "1000")]
# ['101101', '1010101', '1010', 2, 3, [4, 3, 1], 2]
both = carried("100", ["1010", ""])
[both, pieces("100", both), pieces("100", both[:10] + "1" + both[11:])]
# ['100101101100100', [(3, '1010'), (12, '')], [(3, None)]]

from wholesound.carriers import carried, pieces
from wholesound.damage import hurt, is_lost_paper, most_lost, worst_marks
both = carried("100", ["1010", ""])
[hurt("1001", [("turn", 1), ("put", 4, "1"), ("lose", 0)]), pieces("100", hurt(both, [("put", 3, "0")]))]
# ['1011', [(3, '01010'), (13, '')]]
[most_lost([5, 1, 4], 1), worst_marks([5, 1, 4], 1), most_lost([5, 1, 4], 2), is_lost_paper([5, 1, 4], 1, (5, [5, 0, 4]))]
# [6, [1], 10, True]

from wholesound.finding import how_many_kept, in_all, is_kept_paper, is_most_paper, most_in_any, most_in_order, most_kept, patched
told = [(0, 0, 4), (20, 8, 4), (40, 4, 4), (60, 2, 8)]
[most_in_order(told), how_many_kept(told), in_all(told), is_kept_paper(told, [4, 8, 8, 8]), most_in_any(told), most_kept(told), is_most_paper(told, [(3, 4), (7, 4), (11, 4)])]
# [8, 3, [], True, 12, [0, 1, 2], True]
patched([(0, 2, 2), (9, 6, 1)], [[[5, -1]], [[7]]], [0, 1], 8)
# [('lost', 0, 2), ('told', 2, [[5, -1]]), ('lost', 4, 2), ('told', 6, [[7]]), ('lost', 7, 1)]

from wholesound.seeking import how_many_tables, is_table_paper, least_step, table
starts = [0, 3, 4, 9]
[least_step(starts, 10, 2), table(starts, 10, 2), how_many_tables(starts, 10, 3), is_table_paper(starts, 10, 2, ("runs", [(0, 2), (2, 3)])), is_table_paper(starts, 10, 3, ("one", 2))]
# [6, [0, 4], 1, True, True]

from wholesound.cuts import anew, best_cuts, kept_blocks
from wholesound.diffs import fewest, is_fewest, least_edit
from wholesound.edits import Edit, recovered, told
from wholesound.sounds import Sound
edit = Edit([4, 2], 1, [("keep", 0, 0, 2), ("keep", 0, 2, 1), ("given", [[7]]), ("keep", 1, 1, 1)])
[edit.pieces(), edit.came_from(2), told(edit, [Sound(4, [[1, 2, 3, 4]]), Sound(4, [[5, 6]])]).ways(), recovered(edit, 0)]
# [[('keep', 0, 0, 3), ('given', [[7]]), ('keep', 1, 1, 1)], (0, 2), [[1, 2, 3, 7, 6]], ('lost', [3])]
old, new = Sound(3, [[0, 1, 1, 0]]), Sound(3, [[1, 0, 1, 1, 1]])
[is_fewest([old], new, ("pieces", fewest([old], new)[1], [(0, 3), (2, 3)])), least_edit([old], new, 2, 1)[1]]
# [True, 6]
halves = Edit([6], 1, [("keep", 0, 0, 2), ("keep", 0, 3, 3)])
[kept_blocks(halves, [[0, 3, 6]]), anew(halves, [[0, 3, 6]]), best_cuts(6, [halves], 2)[:2]]
# [[(2, 0, 1)], 2, ([0, 3, 6], 2)]

from wholesound.edits import Edit
from wholesound.guessers import steps
from wholesound.mixers import Mixer
from wholesound.settings import Settings
from wholesound.sounds import Sound
from wholesound.streams import write
from wholesound.tapes import Tape
settings = Settings([2, 4], [Mixer(1, [])], [steps(1)], 1)
tape = Tape(settings, write(settings, Sound(4, [[3, 3, 5, 6]]), [(2, 0, [("still",)]), (2, 0, [("guessed", 0, 0, [1])])]))
[tape.do(Edit([4], 1, [("keep", 0, 2, 2), ("keep", 0, 0, 2)])), tape.sound().ways(), len(tape.bits()), tape.held()]
# [True, [[5, 6, 3, 3]], 194, [(0, 0, 1), (2, 0, 0)]]
[tape.put(0, [[3, 3]]), len(tape.bits()), tape.gone(), tape.held(), tape.origin().pieces()]
# [True, 173, [[2, 3]], [(2, 0, 0)], [('given', [[3, 3]]), ('keep', 0, 0, 2)]]

from wholesound.carriers import stuffed
from wholesound.guessers import steps
from wholesound.live import Listener, Recorder, resumed
from wholesound.mixers import Mixer
from wholesound.settings import Settings
from wholesound.sounds import Sound
from wholesound.streams import read
settings = Settings([2, 4], [Mixer(1, [])], [steps(1)], 1)
recorder = Recorder(settings, 4, 2, "100")
recorder.put([[3, 3, 5]])
[recorder.many(), recorder.closed(), recorder.plan(), read(settings, recorder.finished())[0] == Sound(4, [[3, 3, 5]])]
# [3, 2, [(2, 0, [('still',)])], True]
whole = recorder.stream()
[recorder.sure_bits() == whole + stuffed("100", "000000000010" + "0000000000"), recorder.kept_from(1) == len(whole), recorder.kept_from(0)]
# [True, True, 0]
again = resumed(settings, 4, 2, "100", recorder.crash(len(whole) - 1))
[again.closed(), resumed(settings, 4, 2, "100", whole + "0101").closed(), again.put([[3, 3, 5]]), again.stream() == whole, again == recorder]
# [0, 2, None, True, True]
recorder.flush()
[recorder.closed(), recorder.log(), recorder.back(), recorder.closed(), recorder == again]
# [3, [('put', [[3, 3, 5]]), ('flush',)], ('flush',), 2, True]
listener = Listener(settings, 4, "100")
[listener.hear(whole[:-1]), listener.hear(whole[-1]), listener.waiting()]
# [([], []), ([(3, 0, 2)], [[[3, 3]]]), 0]

from wholesound.guessers import steps
from wholesound.mixers import Mixer
from wholesound.settings import Settings
from wholesound.texts import mixer_text, plan_text, read_plan, settings_text, short_lines, wrong_line
settings = Settings([4, 6], [Mixer(1, [])], [steps(2)], 1)
settings_text(settings).split("\n")
# ['settings', 'lengths 4 6', 'parts 1', 'guesser 0 2 -1', 'mixer 1', '']
mixer_text(Mixer(2, [("lift", 1, [-1, 0], 0), ("swap", 0, 1)])).split("\n")
# ['mixer 2', 'lift 1 0 -1 0', 'swap 0 1', '']
block, other = (4, 0, [("guessed", 0, 1, [2, 3])]), (6, 0, [("plain",)])
plan_text(settings, 8, 10, [block, other]).split("\n")
# ['plan 8 10', 'block 4 0', 'guessed 0 1 2 3', 'block 6 0', 'plain', '']
framed = "plan 8 20\ntimes 2\nblock 4 0\nguessed 0 1 2 3\nblock 6 0\nplain\nend\n"
[read_plan(settings, 8, 20, framed) == [block, other] * 2, short_lines(settings, 8, 20, [block, other] * 2), short_lines(settings, 8, 12, [block] * 3)]
# [True, 7, 5]
head, some = "plan 8 14\n", "block 4 0\nplain\n"
[wrong_line(settings, 8, 14, head + lines) for lines in ["", "times 2\n", "times 3\n", some * 2 + "block 4 0\n", some + "block 5 0\n"]]
# [2, 3, 2, 6, 4]
wrong_line(settings, 8, 12, "plan 8 12\ntimes 2\nblock 6 0\nplain\n")
# 5
'''


class Examples(unittest.TestCase):

    def test_each_line_tells_its_answer(self):
        seen = 0
        for example in EXAMPLES.strip().split("\n\n"):
            names, lines = {}, example.split("\n")
            for line, behind in zip(lines, lines[1:] + [""]):
                if behind.startswith("# "):
                    self.assertEqual(repr(eval(line, names)), behind[2:], line)
                    seen += 1
                elif not line.startswith("# "):
                    exec(line, names)
        self.assertEqual(seen, 62)


if __name__ == "__main__":
    unittest.main()
