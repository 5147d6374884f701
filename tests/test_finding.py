"""[96], [97]: blocks found in any bits, the most samples of them in order and in any order, and patched samples."""

import itertools
import unittest

from wholesound.carriers import carried, pieces, stuffed
from wholesound.damage import hurt, most_lost
from wholesound.errors import InvalidFound, InvalidNumber
from wholesound.finding import found, how_many_kept, in_all, in_some, is_kept_paper, is_most_paper, kept, kept_paper
from wholesound.finding import most_in_any, most_in_order, most_kept, most_paper, patched
from wholesound.guessers import steps
from wholesound.live import Recorder
from wholesound.mixers import Mixer
from wholesound.settings import Settings
from wholesound.sounds import Sound
from wholesound.streams import block_at, block_bits

from tests.drawn import Drawn
from tests.odd import bent

SETTINGS = Settings([2, 4], [Mixer(1, []), Mixer(1, [("turn", 0)])], [steps(1)], 1)
MARK = "1000"


def block_row(first, samples, mixer=0, depth=4):
    block = (len(samples), mixer, [("plain",)])
    return block_bits(SETTINGS, Sound(depth, [samples]), first, block)


def found_slowly(settings, depth, mark, bits):
    blocks, samples = [], []
    for place, row in pieces(mark, bits):
        told = None if row is None else block_at(settings, depth, row, 0)
        if told is not None and told[3] == len(row):
            blocks.append((place, told[0], told[2].many()))
            samples.append(told[2].ways())
    return (blocks, samples)


class Found(unittest.TestCase):

    def test_blocks_among_what_are_none(self):
        rows = [block_row(5, [1, 2]), "0101", block_row(0, [-8, 7, 3]), block_row(0, [-8, 7, 3]) + "0", "",
                block_row(0, [-8, 7, 3])[:-1], block_row(4092, [7, 7, 7], 1), block_row(9, [1], 0, 5)]
        bits = carried(MARK, rows)
        blocks, samples = found(SETTINGS, 4, MARK, "110" + bits + "01")
        places = [place + 3 for place, _ in pieces(MARK, bits)]
        self.assertEqual(blocks, [(places[0], 5, 2), (places[2], 0, 3), (places[6], 4092, 3)])
        self.assertEqual(samples, [[[1, 2]], [[-8, 7, 3]], [[7, 7, 7]]])
        # The bits of plain samples of depth 5 have another number for depth 4.
        self.assertEqual(found(SETTINGS, 5, MARK, bits), ([(places[7] - 3, 9, 1)], [[[1]]]))

    def test_blocks_that_came_twice_and_out_of_turn(self):
        rows = [block_row(4, [1, 2]), block_row(0, [5, 5]), block_row(4, [1, 2]), block_row(5, [0, 0, 0])]
        blocks, samples = found(SETTINGS, 4, MARK, carried(MARK, rows))
        self.assertEqual([block[1:] for block in blocks], [(4, 2), (0, 2), (4, 2), (5, 3)])
        self.assertEqual(samples, [[[1, 2]], [[5, 5]], [[1, 2]], [[0, 0, 0]]])

    def test_blocks_that_end_behind_4095_are_none(self):
        told = block_row(4093, [1, 1])
        self.assertEqual(found(SETTINGS, 4, MARK, carried(MARK, [told]))[0], [(4, 4093, 2)])

    def test_bits_without_marks(self):
        for bits in ("", "1", "100", MARK, "0" * 50, block_row(0, [1, 2]), MARK + block_row(0, [1]), "1" * 40):
            self.assertEqual(found(SETTINGS, 4, MARK, bits), ([], []))

    def test_a_piece_may_come_by_without_a_carrier(self):
        # Two marks made by chance stand about the stuffed row of a block as well.
        row = block_row(0, [1, 2])
        self.assertEqual(found(SETTINGS, 4, MARK, "1" + MARK + stuffed(MARK, row) + MARK + "00"), ([(5, 0, 2)], [[[1, 2]]]))

    def test_drawn_streams_and_damage(self):
        drawn = Drawn(96)
        for _ in range(150):
            rows = []
            for _ in range(drawn.below(5)):
                samples = drawn.samples(drawn.between(1, 4), 4)
                rows.append(drawn.item([block_row(drawn.below(4000), samples, drawn.below(2)), "10" * drawn.below(9)]))
            bits = carried(MARK, rows)
            for _ in range(drawn.below(4)):
                bits = hurt(bits, [drawn.item([("turn", drawn.below(len(bits))), ("lose", drawn.below(len(bits))),
                                               ("put", drawn.below(len(bits) + 1), drawn.item("01"))])])
            self.assertEqual(found(SETTINGS, 4, MARK, bits), found_slowly(SETTINGS, 4, MARK, bits))

    def test_several_ways(self):
        side = Settings([2], [Mixer(2, [("lift", 0, [0, 1], 1)])], [], 0)
        block = (3, 0, [("plain",), ("still",)])
        sound = Sound(6, [[1, -32, 31], [7, 7, 7]])
        self.assertEqual(found(side, 6, MARK, carried(MARK, [block_bits(side, sound, 11, block)])),
                         ([(4, 11, 3)], [sound.ways()]))


class RecorderBehindHurts(unittest.TestCase):

    def test_as_many_samples_as_are_promised(self):
        drawn = Drawn(960)
        for _ in range(60):
            recorder = Recorder(SETTINGS, 4, drawn.between(1, 4), drawn.item([MARK, "0111", "100", "11010"]))
            for _ in range(drawn.between(1, 6)):
                recorder.put([drawn.samples(drawn.below(5), 4)])
                if drawn.below(2):
                    recorder.flush()
            lengths = [block[0] for block in recorder.plan()]
            for many in range(4):
                bits = recorder.stream()
                for _ in range(many):
                    if bits:
                        at = drawn.below(len(bits))
                        bits = hurt(bits, [drawn.item([("turn", at), ("lose", at), ("put", at, "0"), ("put", at, "1")])])
                blocks = found(SETTINGS, 4, recorder_mark(recorder), bits)[0]
                self.assertGreaterEqual(most_in_order(blocks), recorder.closed() - most_lost(lengths, many))
                if many == 0:
                    self.assertEqual(most_in_order(blocks), recorder.closed())


def recorder_mark(recorder):
    """The mark of a recorder is how the stream of a copy begins from which all is undone."""
    empty = recorder.copy()
    while empty.log():
        empty.back()
    return empty.stream()


def is_before(one, other):
    return one[0] < other[0] and one[1] + one[2] <= other[1]


def apart(one, other):
    return one[1] + one[2] <= other[1] or other[1] + other[2] <= one[1]


def lists_of(blocks, fits):
    """All ascending lists of positions that fit pairwise, with their samples."""
    found_lists = []
    for many in range(len(blocks) + 1):
        for chosen in itertools.combinations(range(len(blocks)), many):
            if all(fits(blocks[one], blocks[other]) for one, other in itertools.combinations(chosen, 2)):
                found_lists.append((sum(blocks[at][2] for at in chosen), list(chosen)))
    return found_lists


def small_blocks(many, firsts, lengths):
    for parts in itertools.product(itertools.product(range(firsts), range(1, lengths + 1)), repeat=many):
        yield [(3 * at, first, length) for at, (first, length) in enumerate(parts)]


def drawn_blocks(drawn, many, far, long):
    places = sorted({drawn.below(10 ** 6) for _ in range(many)})
    return [(place, drawn.below(far), drawn.between(1, long)) for place in places]


class Kept(unittest.TestCase):

    def look(self, blocks):
        lists = lists_of(blocks, is_before)
        most = max(lists)[0]
        best = [chosen for samples, chosen in lists if samples == most]
        self.assertEqual(most_in_order(blocks), most)
        self.assertIn(kept(blocks), best)
        self.assertEqual(how_many_kept(blocks), len(best))
        self.assertEqual(in_all(blocks), [at for at in range(len(blocks)) if all(at in one for one in best)])
        self.assertEqual(in_some(blocks), [at for at in range(len(blocks)) if any(at in one for one in best)])
        paper = kept_paper(blocks)
        self.assertTrue(is_paper(blocks, paper, most))
        self.assertTrue(is_kept_paper(blocks, paper))

    def test_all_small_blocks(self):
        for many in range(4):
            for blocks in small_blocks(many, 4, 2):
                self.look(blocks)

    def test_drawn_blocks(self):
        drawn = Drawn(961)
        for _ in range(150):
            self.look(drawn_blocks(drawn, drawn.below(9), drawn.item([6, 30, 4096]), drawn.item([3, 9, 4095])))

    def test_the_judge_over_all_small_papers(self):
        for blocks in ([], [(0, 0, 2)], [(0, 0, 1), (1, 1, 2)], [(0, 3, 1), (1, 0, 2)], [(2, 0, 1), (3, 1, 1), (5, 1, 1)]):
            most = most_in_order(blocks)
            for many in range(len(blocks) + 2):
                for value in itertools.product(range(-1, 5), repeat=many):
                    self.assertIs(is_kept_paper(blocks, list(value)), is_paper(blocks, list(value), most))

    def test_bent_papers(self):
        blocks = [(0, 0, 4), (20, 8, 4), (40, 4, 4), (60, 2, 8)]
        for value in bent(kept_paper(blocks)) + bent([4, 8, 8, 8]):
            self.assertIs(is_kept_paper(blocks, value), False, value)

    def test_no_blocks(self):
        self.assertEqual((kept([]), most_in_order([]), how_many_kept([]), in_all([]), in_some([]), kept_paper([])),
                         ([], 0, 1, [], [], []))
        self.assertEqual((most_kept([]), most_in_any([]), most_paper([])), ([], 0, []))
        self.assertTrue(is_most_paper([], []) and not is_most_paper([], [(0, 1)]))

    def test_ends_up_to_8190(self):
        blocks = [(0, 0, 4095), (10 ** 29, 4095, 4095)]
        self.assertEqual((most_in_order(blocks), kept(blocks), most_kept(blocks), most_in_any(blocks)),
                         (8190, [0, 1], [0, 1], 8190))
        for bad in ([(0, 4096, 1)], [(0, 0, 4096)], [(0, 0, 0)], [(-1, 0, 1)]):
            self.assertRaises(InvalidFound, most_in_any, bad)


def is_paper(blocks, value, most):
    if len(value) != len(blocks) or max(value, default=0) != most:
        return False
    return all(number >= block[2] and all(number >= block[2] + value[before] for before in range(at)
                                          if is_before(blocks[before], block))
               for at, (block, number) in enumerate(zip(blocks, value)))


def is_price_paper(blocks, value, most):
    numbers = [number for number, _ in value]
    if numbers != sorted(set(numbers)) or any(price < 1 for _, price in value):
        return False
    covered = all(sum(price for number, price in value if block[1] <= number < block[1] + block[2]) >= block[2]
                  for block in blocks)
    return covered and sum(price for _, price in value) == most


class InAnyOrder(unittest.TestCase):

    def look(self, blocks):
        lists = lists_of(blocks, apart)
        most = max(lists)[0]
        self.assertEqual(most_in_any(blocks), most)
        self.assertIn((most, most_kept(blocks)), lists)
        self.assertTrue(is_price_paper(blocks, most_paper(blocks), most))
        self.assertTrue(is_most_paper(blocks, most_paper(blocks)))

    def test_all_small_blocks(self):
        for many in range(4):
            for blocks in small_blocks(many, 4, 2):
                self.look(blocks)

    def test_drawn_blocks(self):
        drawn = Drawn(97)
        for _ in range(150):
            self.look(drawn_blocks(drawn, drawn.below(9), drawn.item([6, 30, 4096]), drawn.item([3, 9, 4095])))

    def test_the_judge_over_all_small_papers(self):
        for blocks in ([(0, 0, 2)], [(0, 1, 1), (1, 0, 2)], [(0, 0, 2), (1, 1, 2)], [(0, 2, 1), (1, 0, 1)]):
            most = most_in_any(blocks)
            for many in range(4):
                for numbers in itertools.product(range(-1, 4), repeat=many):
                    for prices in itertools.product(range(3), repeat=many):
                        value = list(zip(numbers, prices))
                        self.assertIs(is_most_paper(blocks, value), is_price_paper(blocks, value, most), value)

    def test_bent_papers(self):
        blocks = [(0, 0, 4), (20, 8, 4), (40, 4, 4), (60, 2, 8)]
        for value in bent([(3, 4), (7, 4), (11, 4)]) + bent(most_paper(blocks)):
            self.assertIs(is_most_paper(blocks, value), False, value)


class Patched(unittest.TestCase):

    def slowly(self, blocks, samples, chosen, many):
        """Sample by sample: which block tells it, if any."""
        tells = [next((at for at in chosen if blocks[at][1] <= number < blocks[at][1] + blocks[at][2]), None)
                 for number in range(many)]
        told = []
        for at, numbers in itertools.groupby(range(many), key=lambda number: tells[number]):
            numbers = list(numbers)
            if at is None:
                told.append(("lost", numbers[0], len(numbers)))
            else:
                told.append(("told", numbers[0], samples[at]))
        return told

    def test_all_lists_of_small_blocks(self):
        for blocks in small_blocks(2, 3, 2):
            samples = [[list(range(7, 7 + block[2])), [at] * block[2]] for at, block in enumerate(blocks)]
            for _, chosen in lists_of(blocks, apart):
                end = max([blocks[at][1] + blocks[at][2] for at in chosen], default=0)
                for many in (end, end + 1, end + 3):
                    self.assertEqual(patched(blocks, samples, chosen, many), self.slowly(blocks, samples, chosen, many))
                self.assertRaises(InvalidNumber, patched, blocks, samples, chosen, end - 1)

    def test_drawn_blocks(self):
        drawn = Drawn(970)
        for _ in range(100):
            blocks = drawn_blocks(drawn, drawn.below(8), 40, 9)
            samples = [[drawn.numbers(block[2], -8, 7)] for block in blocks]
            chosen = most_kept(blocks)
            many = max([blocks[at][1] + blocks[at][2] for at in chosen], default=0) + drawn.below(3)
            self.assertEqual(patched(blocks, samples, chosen, many), self.slowly(blocks, samples, chosen, many))

    def test_nothing_chosen_and_all(self):
        blocks, samples = [(0, 4, 2), (1, 0, 4), (2, 6, 1)], [[[1, 2]], [[3, 4, 5, 6]], [[7]]]
        self.assertEqual(patched(blocks, samples, [], 0), [])
        self.assertEqual(patched(blocks, samples, [], 8190), [("lost", 0, 8190)])
        self.assertEqual(patched(blocks, samples, [0, 1, 2], 7),
                         [("told", 0, [[3, 4, 5, 6]]), ("told", 4, [[1, 2]]), ("told", 6, [[7]])])
        self.assertEqual(patched([(0, 4095, 4095)], [[[0] * 4095]], [0], 8190)[0], ("lost", 0, 4095))

    def test_what_is_told_belongs_to_the_caller(self):
        samples = [[[1, 2]]]
        first = patched([(0, 0, 2)], samples, [0], 2)
        first[0][2][0].append(9)
        self.assertEqual(samples, [[[1, 2]]])
        self.assertEqual(patched([(0, 0, 2)], samples, [0], 2), [("told", 0, [[1, 2]])])


class Limits(unittest.TestCase):

    def test_streams_of_20000_bits(self):
        row = block_row(0, [1, 2])
        for bits in (carried(MARK, [row] * 200)[:20000], MARK * 5000, MARK + "01" * 9990 + MARK, "10" * 10000,
                     MARK + stuffed(MARK, block_row(3, [1] * 3000)) + MARK):
            self.assertEqual(found(SETTINGS, 4, MARK, bits), found_slowly(SETTINGS, 4, MARK, bits))

    def test_60_blocks_and_more_that_were_found(self):
        drawn = Drawn(9600)
        for many in (60, 260):
            blocks = [(5 * at, drawn.below(4096), drawn.between(1, 4095)) for at in range(many)]
            row = [(7 * at, 10 * at, 10) for at in range(many)]
            self.assertEqual((how_many_kept(row), in_all(row), most_in_any(row)), (1, list(range(many)), 10 * many))
            self.assertTrue(is_kept_paper(blocks, kept_paper(blocks)))
            self.assertTrue(is_most_paper(blocks, most_paper(blocks)))
            self.assertEqual(sum(blocks[at][2] for at in kept(blocks)), most_in_order(blocks))
            self.assertEqual(sum(blocks[at][2] for at in most_kept(blocks)), most_in_any(blocks))

    def test_very_many_lists(self):
        pairs = [(at, 2 * (at // 2), 2) for at in range(60)]
        self.assertEqual((how_many_kept(pairs), in_all(pairs), in_some(pairs)), (2 ** 30, [], list(range(60))))


if __name__ == "__main__":
    unittest.main()
