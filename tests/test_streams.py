"""[71] to [76]: plans that fit, streams written, read, mended and read in pieces, against the words of the document."""

import itertools
import time
import unittest

from wholesound.errors import InvalidPlan, InvalidStream, Unlike
from wholesound.guessers import Guesser, steps
from wholesound.mixers import Mixer
from wholesound.settings import Settings, wide
from wholesound.sounds import Sound, part
from wholesound.streams import Reader, begun, block_at, block_bits, fits, mended, read, rows_of, sizes, write, wrong_at

from tests.drawn import Drawn
from tests.words import block_word, head_word, mixed_row, number_word, plans_of, sealed_by, stream_word, way_word

ONE = Settings([1, 2], [Mixer(1, [])], [steps(1)], 1)
SIDE = Settings([2, 4], [Mixer(2, []), Mixer(2, [("lift", 1, [-1, 0], 0), ("lift", 0, [0, 1], 1)]), Mixer(2, [("swap", 0, 1)])],
                [steps(1), steps(2), Guesser([3], 1)], 2)


def drawn_sound(drawn, ways, depth, many):
    kind = drawn.below(3)
    if kind == 0:
        return Sound(depth, [drawn.samples(many, depth) for _ in range(ways)])
    if kind == 1:
        return Sound(depth, [[drawn.samples(1, depth)[0]] * many for _ in range(ways)])
    low = drawn.below(depth)
    return Sound(depth, [[sample >> low << low for sample in drawn.samples(many, depth)] for _ in range(ways)])


def drawn_kind(drawn, settings, bits, row):
    """Any kind that goes for a row and has no more than 2,000 bits."""
    while True:
        low = drawn.below(min(8, bits))
        parts = drawn.item([2 ** times for times in range(settings.parts() + 1) if len(row) % 2 ** times == 0])
        widths = drawn.numbers(parts, 0, min(31, bits - low))
        kinds = [("still",), ("plain",)] + [("guessed", drawn.below(len(settings.guessers())), low, widths)] * 3
        kind = drawn.item(kinds)
        word = way_word(settings, bits, row, kind)
        if word is not None and len(word) <= 2000:
            return kind


def drawn_block(drawn, settings, sound, first, length):
    mixer = drawn.below(len(settings.mixers()))
    rows = [mixed_row(settings, sound, first, length, mixer, way) for way in range(settings.ways())]
    wides = wide(settings, sound.depth())[mixer]
    return (length, mixer, [drawn_kind(drawn, settings, bits, row) for bits, row in zip(wides, rows)])


def drawn_plan(drawn, settings, sound):
    """Any plan that fits, of any lengths."""
    plan, first = [], 0
    while first < sound.many():
        length = drawn.between(1, min(8, sound.many() - first))
        plan.append(drawn_block(drawn, settings, sound, first, length))
        first += length
    return plan


def turned(bits, *places):
    signs = list(bits)
    for place in places:
        signs[place] = "1" if signs[place] == "0" else "0"
    return "".join(signs)


def is_stream(settings, bits):
    try:
        read(settings, bits)
    except InvalidStream:
        return False
    return True


class Written(unittest.TestCase):

    def check(self, settings, sound, plan):
        bits = stream_word(settings, sound, plan)
        self.assertIs(fits(settings, sound, plan), True)
        self.assertEqual(write(settings, sound, plan), bits)
        told, again = read(settings, bits)
        self.assertEqual((told == sound, again), (True, plan))
        self.assertEqual(write(settings, told, again), bits)
        rows = rows_of(settings, bits)
        self.assertEqual("".join(rows), bits)
        self.assertEqual(sizes(settings, sound, plan), [len(row) for row in rows])
        self.assertEqual((len(rows), rows[0]), (len(plan) + 1, head_word(sound)))
        self.assertIsNone(wrong_at(settings, bits))
        self.assertEqual(mended(settings, bits), bits)
        self.assertEqual((begun(settings, bits)[0] == sound, begun(settings, bits)[1:]), (True, (plan, len(bits))))

    def test_all_small_sounds_and_all_plans(self):
        wholes = {}
        for depth, many in ((1, 0), (1, 1), (1, 2), (1, 3), (2, 1), (2, 2), (3, 1)):
            for row in itertools.product(range(-2 ** (depth - 1), 2 ** (depth - 1)), repeat=many):
                sound = Sound(depth, [list(row)])
                for _, plan in plans_of(ONE, sound, [1, 2, 3]):
                    self.check(ONE, sound, plan)
                    bits = write(ONE, sound, plan)
                    self.assertNotIn(bits, wholes)
                    wholes[bits] = True

    def test_drawn_ones(self):
        drawn = Drawn(710)
        for _ in range(120):
            sound = drawn_sound(drawn, 2, drawn.between(1, 16), drawn.below(20))
            self.check(SIDE, sound, drawn_plan(drawn, SIDE, sound))

    def test_four_ways_and_eight_mixers(self):
        drawn = Drawn(711)
        mixers = [Mixer(4, [("lift", at % 4, [0 if at % 4 == way else at - way for way in range(4)], at % 3)]) for at in range(8)]
        settings = Settings([3], mixers, [steps(order) for order in range(9)] + [Guesser([at], 3) for at in range(7)], 4)
        for _ in range(30):
            sound = drawn_sound(drawn, 4, drawn.between(1, 12), drawn.between(1, 6))
            plan = []
            for at in range(sound.many()):
                # Low 0 and one width go everywhere.
                kinds = [drawn.item([("plain",), ("guessed", drawn.below(16), 0, [drawn.below(2)])]) for _ in range(4)]
                plan.append((1, drawn.below(8), kinds))
            if fits(settings, sound, plan):
                self.check(settings, sound, plan)

    def test_every_number_of_widths(self):
        drawn = Drawn(712)
        settings = Settings([16], [Mixer(1, [])], [steps(2)], 4)
        for times in range(5):
            sound = Sound(10, [drawn.samples(32, 10)])
            self.check(settings, sound, [(32, 0, [("guessed", 0, 0, drawn.numbers(2 ** times, 3, 10))])])
            few = Settings([16], [Mixer(1, [])], [steps(2)], max(times - 1, 0))
            self.assertIs(fits(few, sound, [(32, 0, [("guessed", 0, 0, [7] * 2 ** times)])]), times == 0)
        for length, parts in ((3, 2), (6, 4), (4, 8), (1, 2), (17, 16)):
            sound = Sound(4, [[1] * length])
            self.assertFalse(fits(settings, sound, [(length, 0, [("guessed", 0, 0, [1] * parts)])]))

    def test_lows(self):
        settings = Settings([4], [Mixer(1, [])], [steps(1)], 0)
        for depth in (1, 3, 7, 8, 9, 24):
            greatest = min(7, depth - 1)
            row = [-2 ** greatest, 0, 0] if depth > 1 else [-1, 0, -1]
            sound = Sound(depth, [row])
            for low in range(10):
                plan = [(3, 0, [("guessed", 0, low, [0])])]
                goes = low <= greatest and all(sample % 2 ** low == 0 for sample in row)
                self.assertIs(fits(settings, sound, plan), goes)
                if goes:
                    self.check(settings, sound, plan)
                for width in (depth - low, depth - low + 1, 31, 32):
                    plan = [(3, 0, [("guessed", 0, low, [width])])]
                    self.assertIs(fits(settings, sound, plan), goes and 0 <= width <= min(31, depth - low))

    def test_lows_of_noughts(self):
        # Noughts are divided by all powers of 2, but no low is above 7.
        settings = Settings([4], [Mixer(1, [])], [steps(1)], 0)
        for depth in (1, 2, 7, 8, 9, 24):
            for low in range(-1, 12):
                self.assertIs(fits(settings, Sound(depth, [[0]]), [(1, 0, [("guessed", 0, low, [0])])]), 0 <= low <= min(7, depth - 1))

    def test_blocks_of_no_samples_do_not_fit(self):
        sound = Sound(4, [[3, 3]])
        whole, none = (2, 0, [("plain",)]), (0, 0, [("plain",)])
        for plan in ([none, whole], [whole, none], [none], [(3, 0, [("plain",)]), (-1, 0, [("plain",)])]):
            self.assertFalse(fits(ONE, sound, plan))
        self.assertFalse(fits(ONE, Sound(4, [[]]), [none]))

    def test_the_greatest_width(self):
        # Behind this mixer a way has 32 bits: a width may be 31 and no more.
        settings = Settings([1], [Mixer(2, [("lift", 0, [0, 2 ** 14], 0)])], [steps(0)], 0)
        sound = Sound(17, [[5], [-2 ** 16]])
        for width, goes in ((31, True), (32, False)):
            plan = [(1, 0, [("guessed", 0, 0, [width]), ("plain",)])]
            self.assertIs(fits(settings, sound, plan), goes)
        self.check(settings, sound, [(1, 0, [("guessed", 0, 0, [31]), ("still",)])])
        self.check(settings, sound, [(1, 0, [("still",), ("guessed", 0, 0, [16])])])

    def test_sounds_of_no_samples(self):
        for ways in (1, 2, 3, 4):
            settings = Settings([5], [Mixer(ways, [])], [], 0)
            sound = Sound(24, [[] for _ in range(ways)])
            self.check(settings, sound, [])
            self.assertEqual(sizes(settings, sound, []), [27])
            self.assertFalse(fits(settings, sound, [(1, 0, [("plain",)] * ways)]))

    def test_blocks_of_more_than_65535_bits(self):
        settings = Settings([1], [Mixer(1, [])], [steps(0)], 0)
        for many, goes in ((2727, True), (2728, False)):
            # 69 bits and 24 for each sample.
            sound = Sound(24, [[0] * many])
            self.assertIs(fits(settings, sound, [(many, 0, [("plain",)])]), goes)
        sound = Sound(24, [[0] * 2728])
        self.assertTrue(fits(settings, sound, [(2728, 0, [("still",)])]))
        self.assertTrue(fits(settings, sound, [(2000, 0, [("plain",)]), (728, 0, [("plain",)])]))
        for fold, goes in ((65535 - 67 - 17 - 1, True), (65535 - 67 - 17, False)):
            sample = fold // 2 if fold % 2 == 0 else -(fold + 1) // 2
            sound = Sound(24, [[sample]])
            plan = [(1, 0, [("guessed", 0, 0, [0])])]
            self.assertIs(fits(settings, sound, plan), goes)
            if goes:
                self.assertEqual(sizes(settings, sound, plan), [27, 65535])
            else:
                with self.assertRaises(InvalidPlan):
                    write(settings, sound, plan)

    def test_the_greatest_blocks_and_numbers_are_read(self):
        settings = Settings([1], [Mixer(1, [])], [steps(0)], 0)
        for fold in (65535 - 67 - 17 - 1, 32768):
            sample = fold // 2 if fold % 2 == 0 else -(fold + 1) // 2
            self.check(settings, Sound(24, [[sample]]), [(1, 0, [("guessed", 0, 0, [0])])])
        self.check(settings, Sound(24, [[5] * 4095]), [(4095, 0, [("still",)])])
        self.check(settings, Sound(24, [[5] * 4095]), [(2048, 0, [("still",)]), (2046, 0, [("still",)]), (1, 0, [("plain",)])])

    def test_great_prices_are_no_burden(self):
        sound = Sound(24, [[-2 ** 23] * 4095])
        settings = Settings([1], [Mixer(1, [])], [steps(0)], 4)
        self.assertFalse(fits(settings, sound, [(4095, 0, [("guessed", 0, 0, [0])])]))

    def test_sounds_that_do_not_suit(self):
        far = Settings([1], [Mixer(1, []), Mixer(1, [])], [], 0)
        steep = Settings([1], [Mixer(2, []), Mixer(2, [("lift", 0, [0, 2 ** 14], 0)])], [], 0)
        for settings, sound in ((far, Sound(4, [[1], [2]])), (steep, Sound(18, [[1], [1]])), (steep, Sound(4, [[1]]))):
            for function in (fits, write, sizes):
                with self.assertRaises(Unlike) as caught:
                    function(settings, sound, [])
                self.assertIs(caught.exception.value, sound)


class Read(unittest.TestCase):

    def test_all_ways_of_one_block(self):
        # Of all bits that may stand between the opening and the word just those are right that some plan writes.
        settings = Settings([1], [Mixer(1, [])], [steps(1), Guesser([1], 1)], 1)
        for depth, many, most in ((1, 1, 18), (1, 2, 4), (2, 1, 6), (2, 2, 7)):
            written = {}
            for row in itertools.product(range(-2 ** (depth - 1), 2 ** (depth - 1)), repeat=many):
                sound = Sound(depth, [list(row)])
                for _, plan in plans_of(settings, sound, [many]):
                    written[stream_word(settings, sound, plan)] = (sound, plan)
            sound = Sound(depth, [[0] * many])
            for size in range(most + 1):
                if size > 9:
                    # Of the longer ones a few hundred are looked at.
                    ways = ["10" + number_word(at * 2654435761 % 2 ** (size - 2), size - 2) for at in range(300)]
                else:
                    ways = [number_word(at, size) for at in range(2 ** size)]
                opening = sealed_by(number_word(0, 12) + number_word(many, 12) + "000" + number_word(67 + size, 16), 8, 29)
                for way in ways:
                    bits = head_word(sound) + sealed_by(opening + way, 16, 4107)
                    if bits in written:
                        self.assertEqual(read(settings, bits), written[bits])
                    else:
                        self.assertFalse(is_stream(settings, bits), (depth, way))
                        self.assertEqual(wrong_at(settings, bits), len(bits))

    def block(self, sound, ways, first=0, length=None, mixer=0, size=None, head=None):
        """A stream of one block whose opening tells what is wished, with right words."""
        length = sound.many() if length is None else length
        size = 67 + len(ways) if size is None else size
        told = number_word(first, 12) + number_word(length, 12) + number_word(mixer, 3) + number_word(size, 16)
        return (head or head_word(sound)) + sealed_by(sealed_by(told, 8, 29) + ways, 16, 4107)

    def test_wrong_openings(self):
        sound = Sound(4, [[3, 3]])
        ways = "00" + number_word(6, 4)
        right = self.block(sound, ways)
        self.assertEqual(read(ONE, right), (sound, [(2, 0, [("still",)])]))
        for wrong in ({"first": 1}, {"first": 4095}, {"length": 0}, {"length": 3}, {"length": 4095}, {"mixer": 1}, {"mixer": 7},
                      {"size": 0}, {"size": 66}):
            bits = self.block(sound, ways, **wrong)
            self.assertEqual(wrong_at(ONE, bits), 78, wrong)
            self.assertEqual(wrong_at(ONE, bits[:78]), 78)
            self.assertIsNone(wrong_at(ONE, bits[:77]))
            self.assertEqual(begun(ONE, bits)[1:], ([], 27))
            self.assertFalse(is_stream(ONE, bits))
            self.assertIsNone(mended(ONE, bits))
        # Samples that are told twice or left out, though they end within the sound.
        long = Sound(4, [[3, 3, 3, 3]])
        two = block_bits(ONE, sound, 0, (2, 0, [("still",)]))
        for first, goes in ((0, False), (1, False), (2, True), (3, False)):
            bits = head_word(long) + two + block_word(ONE, sound, 0, (2, 0, [("still",)]), first)
            self.assertEqual(wrong_at(ONE, bits), None if goes else 27 + len(two) + 51)
            self.assertIs(is_stream(ONE, bits), goes)
        # The opening stands, but what follows does not fill it, or is not all there.
        for size, at in ((67, 94), (72, 99), (74, None), (65535, None)):
            bits = self.block(sound, ways, size=size)
            self.assertEqual(wrong_at(ONE, bits), at)
            self.assertFalse(is_stream(ONE, bits))
        short = self.block(sound, ways, length=1)
        self.assertIsNone(wrong_at(ONE, short))
        self.assertEqual(begun(ONE, short)[0], Sound(4, [[3]]))
        self.assertFalse(is_stream(ONE, short))

    def test_blocks_that_begin_too_late_are_not_found(self):
        sound = Sound(4, [[3, 3]])
        bits = self.block(sound, "00" + number_word(6, 4))
        for more in ("0", "1", "01", "0" * 51, "1" * 60, bits[27:]):
            late = bits[:27] + more + bits[27:]
            wrong = 27 + 73 + 1 if more == bits[27:] else 78
            self.assertEqual(wrong_at(ONE, late), wrong)
            self.assertEqual(begun(ONE, late)[2], wrong - 1 if more == bits[27:] else 27)
            reader = Reader(ONE)
            told = [reader.feed(sign) for sign in late]
            self.assertEqual([one for one in told if one != [[]]], [[[3, 3]]] if more == bits[27:] else [])
        for more in ("0", "1"):
            self.assertEqual(wrong_at(ONE, more + bits), 27)
            self.assertIsNone(begun(ONE, more + bits))

    def test_wrong_ways(self):
        sound = Sound(4, [[3, 3]])
        folds = "".join(number_word(6, 4) for _ in range(2))
        guessed = "10" + "0000" + "000" + "000" + "00100"
        for ways in ("11" + folds, "00", "01" + folds[:-1], "01" + folds + "0", "00" + number_word(6, 4) + "0", "", "0", "1", "10",
                     "10" + "0001" + "000" + "000" + "00100" + "0" * 10, "10" + "0000" + "100" + "000" + "00000" + "00",
                     "10" + "0000" + "111" + "000" + "00000" + "00", "10" + "0000" + "000" + "010" + "00000" * 4 + "00",
                     "10" + "0000" + "000" + "111" + "00000" * 4 + "00", "10" + "0000" + "000" + "000" + "00101" + "0" * 12,
                     guessed + "0" * 9, guessed + "0" * 11, guessed + "10000" + "00000", guessed + "0000" + "1" * 6,
                     "10" + "0000" + "000" + "000" + "0000", "10" + "0000" + "000" + "001" + "00100" + "0010"):
            bits = self.block(sound, ways)
            self.assertEqual(wrong_at(ONE, bits), len(bits), ways)
            self.assertFalse(is_stream(ONE, bits))
            self.assertIsNone(mended(ONE, bits))
        for ways in (guessed + "0" * 10, guessed + "00110" + "00000", "01" + folds):
            self.assertTrue(is_stream(ONE, self.block(sound, ways)))
        # Rests that are no samples of the depth: at the width 0 a fold may be 15, but not 16.
        lean = "10" + "0000" + "000" + "000" + "00000"
        self.assertTrue(is_stream(ONE, self.block(sound, lean + "1" * 15 + "0" + "0")))
        self.assertFalse(is_stream(ONE, self.block(sound, lean + "1" * 16 + "0" + "0")))
        # Behind a division by 4 they have two bits.
        lean = "10" + "0000" + "010" + "000" + "00000"
        self.assertTrue(is_stream(ONE, self.block(sound, lean + "1" * 3 + "0" + "0")))
        for fold in (4, 15, 16, 63):
            self.assertFalse(is_stream(ONE, self.block(sound, lean + "1" * fold + "0" + "0")))

    def test_samples_that_are_not_of_the_depth(self):
        # Behind this mixer ways have more bits than the samples: not all that they can tell comes from some.
        settings = Settings([1], [Mixer(2, [("lift", 0, [0, 1], 0)])], [steps(0)], 0)
        sound = Sound(2, [[0], [0]])
        seen = 0
        for one, other in itertools.product(range(8), range(4)):
            left, right = ([number // 2 if number % 2 == 0 else -(number + 1) // 2 for number in (one, other)])
            bits = self.block(sound, "01" + number_word(one, 3) + "00" + number_word(other, 2))
            goes = -2 <= left - right <= 1
            self.assertIs(is_stream(settings, bits), goes)
            self.assertEqual(wrong_at(settings, bits), None if goes else len(bits))
            seen += goes
        self.assertEqual(seen, 16)

    def test_wrong_heads(self):
        sound = Sound(4, [[3, 3]])
        bits = write(ONE, sound, [(2, 0, [("plain",)])])
        for depth, ways, many, goes in ((4, 1, 2, True), (25, 1, 2, False), (32, 1, 2, False), (4, 2, 2, False), (4, 4, 2, False)):
            head = sealed_by(number_word(depth - 1, 5) + number_word(ways - 1, 2) + number_word(many, 12), 8, 29)
            self.assertEqual(wrong_at(ONE, head), None if goes else 27)
            self.assertEqual(wrong_at(ONE, head + bits[27:]), None if goes else 27)
            self.assertIsNone(wrong_at(ONE, head[:26]))
            self.assertEqual(begun(ONE, head) is None, not goes)
            self.assertIsNone(begun(ONE, head[:26]))
        steep = Settings([1], [Mixer(1, [])] * 2, [], 0)
        far = Settings([1], [Mixer(2, []), Mixer(2, [("lift", 0, [0, 2 ** 14], 0)])], [], 0)
        for depth in (17, 18):
            head = head_word(Sound(depth, [[], []]))
            self.assertEqual(is_stream(far, head), depth == 17)
            self.assertEqual(wrong_at(far, head), None if depth == 17 else 27)
        self.assertTrue(is_stream(steep, head_word(Sound(24, [[]]))))

    def test_bits_cut_off_anywhere_and_put_on(self):
        drawn = Drawn(740)
        for _ in range(12):
            sound = drawn_sound(drawn, 2, drawn.between(1, 9), drawn.between(1, 9))
            plan = drawn_plan(drawn, SIDE, sound)
            bits, ends = write(SIDE, sound, plan), [27]
            for size in sizes(SIDE, sound, plan)[1:]:
                ends.append(ends[-1] + size)
            for many in range(len(bits)):
                self.assertIsNone(wrong_at(SIDE, bits[:many]))
                self.assertFalse(is_stream(SIDE, bits[:many]))
                self.assertIsNone(mended(SIDE, bits[:many]))
                told = begun(SIDE, bits[:many])
                if many < 27:
                    self.assertIsNone(told)
                else:
                    place = max(end for end in ends if end <= many)
                    whole = plan[:ends.index(place)]
                    self.assertEqual(told, (part(sound, 0, sum(block[0] for block in whole)), whole, place))
            for more in ("0", "1", "01" * 40, bits):
                self.assertEqual(wrong_at(SIDE, bits + more), len(bits) + 1)
                self.assertFalse(is_stream(SIDE, bits + more))
                self.assertIsNone(mended(SIDE, bits + more))
                self.assertEqual(begun(SIDE, bits + more), (sound, plan, len(bits)))


class Turned(unittest.TestCase):

    def streams(self):
        drawn = Drawn(730)
        for settings, ways, depth, many in ((ONE, 1, 4, 0), (ONE, 1, 3, 2), (SIDE, 2, 5, 4), (SIDE, 2, 9, 7)):
            sound = drawn_sound(drawn, ways, depth, many)
            yield settings, sound, drawn_plan(drawn, settings, sound)

    def test_one_turned_bit_comes_back(self):
        for settings, sound, plan in self.streams():
            bits = write(settings, sound, plan)
            ends = [sum(sizes(settings, sound, plan)[:at + 1]) for at in range(len(plan) + 1)]
            for place in range(len(bits)):
                bent = turned(bits, place)
                self.assertFalse(is_stream(settings, bent))
                self.assertEqual(mended(settings, bent), bits)
                begin = max([0] + [end for end in ends if end <= place])
                # A turned bit is told with the part that it is in: the head, an opening or the rest of a block.
                if place < 27:
                    wrong = 27
                elif place < begin + 51:
                    wrong = begin + 51
                else:
                    wrong = min(end for end in ends if end > place)
                self.assertEqual(wrong_at(settings, bent), wrong)

    def test_two_turned_bits_and_eight_side_by_side(self):
        drawn = Drawn(731)
        for settings, sound, plan in self.streams():
            bits = write(settings, sound, plan)
            pairs = list(itertools.combinations(range(len(bits)), 2))
            for one, other in pairs if len(pairs) < 1500 else [drawn.item(pairs) for _ in range(1500)]:
                bent = turned(bits, one, other)
                self.assertFalse(is_stream(settings, bent))
                self.assertNotEqual(mended(settings, bent), bent)
            for _ in range(400):
                low = drawn.below(len(bits) - 7)
                pattern = drawn.between(1, 255)
                bent = turned(bits, *[low + at for at in range(8) if pattern >> at & 1])
                self.assertFalse(is_stream(settings, bent))

    def test_mended_is_a_stream_one_place_apart_or_none(self):
        drawn = Drawn(732)
        for settings, sound, plan in self.streams():
            bits = write(settings, sound, plan)
            for _ in range(200):
                bent = turned(bits, *[drawn.below(len(bits)) for _ in range(drawn.between(1, 4))])
                told = mended(settings, bent)
                near = [one for one in [bent] + [turned(bent, at) for at in range(len(bent))] if one == bits]
                if near:
                    self.assertEqual(told, bits)
                elif told is not None:
                    self.assertTrue(is_stream(settings, told))
                    self.assertEqual(sum(one != other for one, other in zip(told, bent)), 1)

    def test_by_all_neighbours(self):
        drawn = Drawn(733)
        bits = write(ONE, Sound(2, [[1]]), [(1, 0, [("plain",)])])
        for _ in range(25):
            bent = turned(bits, *[drawn.below(len(bits)) for _ in range(drawn.between(0, 3))])
            near = [one for one in [bent] + [turned(bent, at) for at in range(len(bent))] if is_stream(ONE, one)]
            self.assertLessEqual(len(near), 1)
            self.assertEqual(mended(ONE, bent), near[0] if near else None)
        for odd in ("", "0", "1" * 27, "0" * 500):
            self.assertIsNone(mended(ONE, odd))


class Blocks(unittest.TestCase):

    def test_bits_of_a_block_and_back(self):
        drawn = Drawn(750)
        for _ in range(60):
            sound = drawn_sound(drawn, 2, drawn.between(1, 12), drawn.between(1, 8))
            first = drawn.item([0, 1, 77, 4095 - sound.many()])
            block = drawn_block(drawn, SIDE, sound, 0, sound.many())
            bits = block_bits(SIDE, sound, first, block)
            self.assertEqual(bits, block_word(SIDE, sound, 0, block, first))
            ahead, behind = "".join(drawn.item("01") for _ in range(9)), "".join(drawn.item("01") for _ in range(5))
            whole = ahead + bits + behind
            self.assertEqual(block_at(SIDE, sound.depth(), whole, 9), (first, block, sound, 9 + len(bits)))
            for many in (9, 50, 60, 9 + len(bits) - 1):
                self.assertIsNone(block_at(SIDE, sound.depth(), whole[:many], 9))
            for place in [drawn.below(len(bits)) for _ in range(20)]:
                self.assertIsNone(block_at(SIDE, sound.depth(), turned(whole, 9 + place), 9))
            self.assertIsNone(block_at(SIDE, sound.depth(), whole, len(whole)))
            self.assertIsNone(block_at(SIDE, sound.depth(), whole, 10))

    def test_the_blocks_of_a_stream(self):
        drawn = Drawn(751)
        sound = drawn_sound(drawn, 2, 6, 12)
        plan = drawn_plan(drawn, SIDE, sound)
        first = 0
        for row, block in zip(rows_of(SIDE, write(SIDE, sound, plan))[1:], plan):
            own = part(sound, first, first + block[0])
            self.assertEqual(block_bits(SIDE, own, first, block), row)
            self.assertEqual(block_at(SIDE, 6, row, 0), (first, block, own, len(row)))
            first += block[0]

    def test_ends_beyond_4095(self):
        sound = Sound(2, [[1, 1]])
        ways = "00" + number_word(2, 2)
        for first, goes in ((4093, True), (4094, False), (4095, False)):
            told = number_word(first, 12) + number_word(2, 12) + "000" + number_word(67 + len(ways), 16)
            bits = sealed_by(sealed_by(told, 8, 29) + ways, 16, 4107)
            self.assertEqual(block_at(ONE, 2, bits, 0), (first, (2, 0, [("still",)]), sound, len(bits)) if goes else None)
        for length in (0, 2):
            told = number_word(0, 12) + number_word(length, 12) + "000" + number_word(67 + len(ways), 16)
            bits = sealed_by(sealed_by(told, 8, 29) + ways, 16, 4107)
            self.assertEqual(block_at(ONE, 2, bits, 0) is None, length == 0)

    def test_blocks_that_are_not_all_there(self):
        # The word is right for what is there, but the opening tells of more bits.
        ways = "00" + number_word(2, 2)
        for more in (0, 1, 30):
            told = number_word(0, 12) + number_word(2, 12) + "000" + number_word(67 + len(ways) + more, 16)
            bits = sealed_by(sealed_by(told, 8, 29) + ways, 16, 4107)
            self.assertEqual(block_at(ONE, 2, bits, 0) is None, more > 0)

    def test_blocks_of_sounds_of_no_samples(self):
        with self.assertRaises(InvalidPlan) as caught:
            block_bits(ONE, Sound(3, [[]]), 4095, (1, 0, [("plain",)]))
        self.assertEqual(caught.exception.value, (1, 0, [("plain",)]))


class Pieces(unittest.TestCase):

    def feed_all(self, settings, bits, cuts):
        """What a reader tells of bits cut at places, looked at behind each piece."""
        reader, ways, low = Reader(settings), [[] for _ in range(settings.ways())], 0
        self.assertEqual((reader.place(), reader.many(), reader.wrong(), reader.done()), (0, 0, None, False))
        for high in list(cuts) + [len(bits)]:
            told = reader.feed(bits[low:high])
            for way, more in zip(ways, told):
                way += more
            so_far, whole = bits[:high], begun(settings, bits[:high])
            self.assertEqual(reader.wrong(), wrong_at(settings, so_far))
            self.assertEqual(reader.place(), 0 if whole is None else whole[2])
            self.assertEqual(reader.many(), 0 if whole is None else whole[0].many())
            self.assertEqual(ways, [[] for _ in ways] if whole is None else whole[0].ways())
            wanted = int(so_far[7:19], 2) if whole is not None else None
            self.assertIs(reader.done(), whole is not None and reader.many() == wanted and reader.wrong() is None)
            low = high
        return reader

    def test_whatever_the_pieces(self):
        drawn = Drawn(760)
        for _ in range(8):
            sound = drawn_sound(drawn, 2, drawn.between(1, 6), drawn.below(6))
            bits = write(SIDE, sound, drawn_plan(drawn, SIDE, sound))
            for more in ("", "1", "010"):
                self.feed_all(SIDE, bits + more, sorted(drawn.below(len(bits) + 1) for _ in range(drawn.below(12))))
                bent = turned(bits, drawn.below(len(bits))) + more
                self.feed_all(SIDE, bent, sorted(drawn.below(len(bits) + 1) for _ in range(drawn.below(12))))

    def test_pieces_of_one_bit_and_empty_ones(self):
        sound = Sound(3, [[1, 1, -4]])
        bits = write(ONE, sound, [(2, 0, [("still",)]), (1, 0, [("plain",)])])
        self.assertTrue(self.feed_all(ONE, bits, range(len(bits))).done())
        self.assertTrue(self.feed_all(ONE, bits, [0, 0, 27, 27, 27, 50, 50]).done())
        self.assertFalse(self.feed_all(ONE, bits + "0", range(len(bits) + 1)).done())
        reader = Reader(ONE)
        self.assertEqual([reader.feed(""), reader.feed(""), reader.place()], [[[]], [[]], 0])

    def test_each_block_comes_with_its_last_bit(self):
        sound = Sound(4, [[3, 3, 5, 6, 7]])
        plan = [(2, 0, [("still",)]), (2, 0, [("guessed", 0, 0, [1])]), (1, 0, [("plain",)])]
        bits, reader, ends = write(ONE, sound, plan), Reader(ONE), {}
        for at, sign in enumerate(bits, 1):
            told = reader.feed(sign)
            if told != [[]]:
                ends[at] = told
        first = sizes(ONE, sound, plan)
        self.assertEqual(ends, {sum(first[:2]): [[3, 3]], sum(first[:3]): [[5, 6]], sum(first): [[7]]})
        self.assertEqual(Reader(ONE).feed(bits), [[3, 3, 5, 6, 7]])

    def test_behind_a_wrong_part_nothing_is_told(self):
        sound = Sound(4, [[3, 3, 5, 6]])
        bits = write(ONE, sound, [(2, 0, [("still",)]), (2, 0, [("plain",)])])
        reader = Reader(ONE)
        self.assertEqual(reader.feed(turned(bits, 30)), [[]])
        self.assertEqual((reader.wrong(), reader.place(), reader.done()), (78, 27, False))
        self.assertEqual([reader.feed(bits), reader.feed(bits[27:]), reader.wrong(), reader.many()], [[[]], [[]], 78, 0])
        reader = Reader(ONE)
        self.assertEqual(reader.feed(bits + "1"), [[3, 3, 5, 6]])
        self.assertEqual((reader.wrong(), reader.done(), reader.place()), (len(bits) + 1, False, len(bits)))

    def test_what_is_told_belongs_to_the_caller(self):
        sound = Sound(4, [[3, 3, 5, 6]])
        bits = write(ONE, sound, [(2, 0, [("still",)]), (2, 0, [("plain",)])])
        reader = Reader(ONE)
        told = reader.feed(bits[:110])
        told[0].append("spoilt")
        told.append([])
        self.assertEqual(reader.feed(bits[110:]), [[5, 6]])
        self.assertEqual(reader.many(), 4)

    def test_refused_pieces_change_nothing(self):
        from wholesound.errors import InvalidBits
        sound = Sound(4, [[3, 3]])
        bits = write(ONE, sound, [(2, 0, [("still",)])])
        reader = Reader(ONE)
        reader.feed(bits[:40])
        for odd in (None, 0, "2", ["0"], bits + " ", True, (), {"0": 1}):
            with self.assertRaises(InvalidBits) as caught:
                reader.feed(odd)
            self.assertIs(caught.exception.value, odd)
        self.assertEqual((reader.feed(bits=bits[40:]), reader.done()), ([[3, 3]], True))


class Limits(unittest.TestCase):

    def test_the_limits_are_reached(self):
        drawn = Drawn(790)
        mixers = [Mixer(2, [("lift", at % 2, [at % 2 * 3, 3 - at % 2 * 3], 1) for at in range(5)] + [("turn", 0), ("swap", 0, 1)])] * 8
        mixers = [Mixer(2, []), Mixer(2, [("lift", 1, [-1, 0], 0), ("lift", 0, [0, 1], 1)])] + mixers[:6]
        settings = Settings([64], mixers, [steps(8), steps(2)], 4)
        sound = Sound(8, [drawn.samples(450, 8) for _ in range(2)])
        plan = [(64, at % 8, [("guessed", at % 2, 0, [7] * 16), ("plain",)]) for at in range(7)] + [(2, 0, [("plain",)] * 2)]
        begin = time.monotonic()
        bits = write(settings, sound, plan)
        self.assertTrue(15000 < len(bits) < 24000, len(bits))
        self.assertEqual(read(settings, bits), (sound, plan))
        self.assertEqual("".join(rows_of(settings, bits)), bits)
        for place in (3, 40, 5000, len(bits) - 1):
            self.assertEqual(mended(settings, turned(bits, place)), bits)
        self.assertIsNone(wrong_at(settings, bits))
        self.assertEqual(begun(settings, bits[:-1])[2], len(bits) - sizes(settings, sound, plan)[-1])
        reader, step = Reader(settings), len(bits) // 299
        many = 0
        for low in range(0, len(bits), step):
            many += len(reader.feed(bits[low:low + step])[0])
        self.assertEqual((many, reader.done()), (450, True))
        self.assertLess(time.monotonic() - begin, 20)


if __name__ == "__main__":
    unittest.main()
