"""Streams read part by part: heads, openings and blocks, and how far a reader has come."""

from wholesound.bitrows import bits_of, folds_read, number_of, turned_at
from wholesound.blocks import Bench, OPENING_BITS, WORD_BITS, block_check, greatest_low, greatest_width, opening_check
from wholesound.blocks import possible_parts, with_word
from wholesound.checks import first_powers, rest_of
from wholesound.guessers import row_of
from wholesound.mixers import run
from wholesound.samples import is_samples, unfolded
from wholesound.sounds import GREATEST_DEPTH, MOST_SAMPLES

HEAD_BITS = 27


def head_bits(depth, ways, many):
    """The bits of the head of a stream."""
    return with_word(bits_of(depth - 1, 5) + bits_of(ways - 1, 2) + bits_of(many, 12), opening_check())


def head_read(settings, bits):
    """The bench and the number of samples that the bits of a head tell, None if they are wrong."""
    depth, ways = number_of(bits[:5]) + 1, number_of(bits[5:7]) + 1
    if rest_of(opening_check(), bits) != 0 or depth > GREATEST_DEPTH or ways != settings.ways():
        return None
    bench = Bench(settings, depth)
    return (bench, number_of(bits[7:19])) if bench.reached() else None


def opening_read(bench, bits):
    """The first sample, the length, the mixer and the number of bits that an opening tells, None if it is wrong."""
    if len(bits) < OPENING_BITS or rest_of(opening_check(), bits) != 0:
        return None
    first, length, mixer = number_of(bits[:12]), number_of(bits[12:24]), number_of(bits[24:27])
    size = number_of(bits[27:43])
    if length == 0 or mixer >= bench.many_mixers() or size < OPENING_BITS + WORD_BITS:
        return None
    return (first, length, mixer, size)


def block_read(bench, length, mixer, bits):
    """The block and the samples of each way that all the bits of a block tell, None if they are wrong."""
    if rest_of(block_check(), bits) != 0:
        return None
    end, place = len(bits) - WORD_BITS, OPENING_BITS
    kinds, rows = [], []
    for wide in bench.bits_of_ways(mixer):
        told = way_read(bench, wide, length, bits[place:end])
        if told is None:
            return None
        kind, row, many = told
        kinds.append(kind)
        rows.append(row)
        place += many
    ways = unmixed_ways(bench, mixer, rows) if place == end else None
    return None if ways is None else ((length, mixer, kinds), ways)


def block_standing(bench, bits, place):
    """The first sample, the block, its samples and the place behind it, if a block stands at a place; or None."""
    opening = opening_read(bench, bits[place:place + OPENING_BITS])
    if opening is None:
        return None
    first, length, mixer, size = opening
    if first + length > MOST_SAMPLES or place + size > len(bits):
        return None
    told = block_read(bench, length, mixer, bits[place:place + size])
    return None if told is None else (first, told[0], told[1], place + size)


def unmixed_ways(bench, mixer, rows):
    """The samples of each way that are mixed to these rows, None if they are not of the depth."""
    steps = bench.steps_of(mixer)[::-1]
    moments = [run(steps, [row[at] for row in rows], -1, None) for at in range(len(rows[0]))]
    ways = [[moment[way] for moment in moments] for way in range(len(rows))]
    return ways if all([is_samples(way, bench.depth()) for way in ways]) else None


def way_read(bench, wide, length, bits):
    """The kind, the mixed row and the number of bits of a way of so many bits that stands first, or None."""
    if bits[:2] == "00":
        return plain_read(("still",), wide, length, 1, bits)
    if bits[:2] == "01":
        return plain_read(("plain",), wide, length, length, bits)
    return guessed_read(bench, wide, length, bits) if bits[:2] == "10" else None


def plain_read(kind, wide, length, many, bits):
    """A way that tells so many samples by their folds alone, or None."""
    end = 2 + many * wide
    if len(bits) < end:
        return None
    row = [unfolded(number_of(bits[place:place + wide])) for place in range(2, end, wide)]
    return (kind, row * (length // many), end)


def guessed_read(bench, wide, length, bits):
    """A way that tells its rests, or None."""
    at, low, parts = number_of(bits[2:6]), number_of(bits[6:9]), 1 << number_of(bits[9:12])
    if at >= len(bench.all_guessers()) or low > greatest_low(wide) or parts not in possible_parts(bench, length):
        return None
    place = 12 + 5 * parts
    if len(bits) < place:
        return None
    widths = [number_of(bits[first:first + 5]) for first in range(12, place, 5)]
    if max(widths) > greatest_width(wide, low):
        return None
    told = stretches_read(widths, length // parts, bits, place)
    if told is None or max(told[0]) >> (wide - low):
        return None
    row = row_of(bench.all_guessers()[at], wide - low, [unfolded(number) for number in told[0]])
    return (("guessed", at, low, widths), [sample << low for sample in row], told[1])


def stretches_read(widths, many, bits, place):
    """The folds of stretches of so many each, from a place on, and the place behind them; None if they end within."""
    all_folds = []
    for width in widths:
        folds, ends = folds_read(bits, place, width, many)
        if len(folds) < many:
            return None
        all_folds += folds
        place = ends[-1]
    return (all_folds, place)


class Course:
    """How far a stream is read: what its head and its blocks tell so far, and the first part that is wrong."""

    def __init__(self, settings):
        self._settings = settings
        self._bench = None
        self._wanted = 0
        self._ways = [[] for _ in range(settings.ways())]
        self._plan = []
        self._ends = []
        self._left = ""
        self._wrong = None

    def bench(self):
        """What the blocks are read by, None without a right head."""
        return self._bench

    def ways(self):
        """The samples of each way so far."""
        return self._ways

    def plan(self):
        """The blocks so far."""
        return self._plan

    def ends(self):
        """The places behind the head and behind each block."""
        return self._ends

    def place(self):
        """The place behind what is whole and right."""
        return self._ends[-1] if self._ends else 0

    def many(self):
        """The number of samples of each way so far."""
        return len(self._ways[0])

    def wrong(self):
        """The place behind the first wrong part, or None."""
        return self._wrong

    def is_told(self):
        """Whether all samples are told and nothing is wrong: so all bits so far are a stream."""
        return self._bench is not None and self.many() == self._wanted and self._wrong is None

    def take(self, bits):
        """Read more bits, as far as parts are whole."""
        if self._wrong is None:
            self._left += bits
            read = self.read_part()
            while read > 0:
                self._left = self._left[read:]
                read = self.read_part()

    def read_part(self):
        """Read the next part: how many bits it has, 0 if it is not whole or not right."""
        if self._bench is None:
            return self.read_head()
        if self.many() < self._wanted:
            return self.read_block()
        self._wrong = None if self._left == "" else self.place() + 1
        return 0

    def read_head(self):
        """Read the head if it is all there."""
        if len(self._left) < HEAD_BITS:
            return 0
        told = head_read(self._settings, self._left[:HEAD_BITS])
        if told is None:
            self._wrong = HEAD_BITS
            return 0
        self._bench, self._wanted = told
        self._ends.append(HEAD_BITS)
        return HEAD_BITS

    def read_block(self):
        """Read a block if it is all there, or else look at its opening."""
        if len(self._left) < OPENING_BITS:
            return 0
        opening = opening_read(self._bench, self._left[:OPENING_BITS])
        if opening is None or opening[0] != self.many() or opening[0] + opening[1] > self._wanted:
            self._wrong = self.place() + OPENING_BITS
            return 0
        _, length, mixer, size = opening
        if len(self._left) < size:
            return 0
        told = block_read(self._bench, length, mixer, self._left[:size])
        if told is None:
            self._wrong = self.place() + size
            return 0
        block, ways = told
        self._plan.append(block)
        self._ways = [way + more for way, more in zip(self._ways, ways)]
        self._ends.append(self.place() + size)
        return size


def course_of(settings, bits):
    """The course of a reader that was handed bits."""
    course = Course(settings)
    course.take(bits)
    return course


def with_one_turned(course, bits):
    """The bits with the one turned that alone can be wrong, as the word of the first wrong part tells; or None."""
    low, high = course.place(), course.wrong()
    if high is None:
        return None
    # What ends farther on than an opening does is a block, and its word is one of the opening, too.
    check = block_check() if high > low + OPENING_BITS else opening_check()
    wanted, powers = rest_of(check, bits[low:high]), first_powers(check, high - low)
    return turned_at(bits, high - 1 - powers.index(wanted)) if wanted in powers else None
