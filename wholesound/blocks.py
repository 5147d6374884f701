"""Blocks of streams: which kinds go for the rows of their ways, how many bits they have, and these bits."""

from wholesound.arguments import check_depth, is_within
from wholesound.bitrows import bits_of, fold_bits
from wholesound.checks import Check, word_of
from wholesound.errors import InvalidDepth, Unlike
from wholesound.guessers import unwrapped_rests
from wholesound.mixers import run
from wholesound.samples import folded, wrapped
from wholesound.settings import check_settings, wide_of
from wholesound.shares import cost_at
from wholesound.sounds import GREATEST_DEPTH, MOST_SAMPLES, check_sound

GREATEST_WIDE = 32
GREATEST_LOW = 7
GREATEST_WIDTH = 31
OPENING_BITS = 51
WORD_BITS = 16
MOST_BITS = 65535


class Bench:
    """Settings at a depth: what blocks of sounds of this depth are written and read by."""

    def __init__(self, settings, depth):
        self._depth = depth
        self._ways = settings.ways()
        self._steps = [mixer.steps() for mixer in settings.mixers()]
        self._guessers = settings.guessers()
        self._parts = settings.parts()
        self._wide = wide_of(settings, depth)

    def depth(self):
        """The depth of the samples of sounds."""
        return self._depth

    def many_ways(self):
        """The number of ways."""
        return self._ways

    def many_mixers(self):
        """The number of mixers."""
        return len(self._steps)

    def steps_of(self, mixer):
        """The steps of the mixer with a number."""
        return self._steps[mixer]

    def bits_of_ways(self, mixer):
        """How many bits the samples of each way have behind the mixer with a number."""
        return self._wide[mixer]

    def all_guessers(self):
        """The guessers."""
        return self._guessers

    def most_parts(self):
        """Into how many parts a row is cut at most."""
        return 1 << self._parts

    def reached(self):
        """Whether no way behind any mixer has too many bits."""
        return max([max(bits) for bits in self._wide]) <= GREATEST_WIDE


def bench_for(settings, sound):
    """The bench for a sound; refused are what are no settings, no sound, or a sound that does not suit them."""
    check_settings(settings)
    check_sound(sound)
    if len(sound.ways()) != settings.ways():
        raise Unlike(sound)
    bench = Bench(settings, sound.depth())
    if not bench.reached():
        raise Unlike(sound)
    return bench


def bench_at(settings, depth):
    """The bench for sounds of a depth; refused are what are no settings, and what is no depth that they reach."""
    check_settings(settings)
    check_depth(depth, GREATEST_DEPTH)
    bench = Bench(settings, depth)
    if not bench.reached():
        raise InvalidDepth(depth)
    return bench


def greatest_low(bits):
    """The greatest exponent of 2 by which samples of so many bits are divided."""
    return min([GREATEST_LOW, bits - 1])


def greatest_width(bits, low):
    """The greatest width for samples of so many bits behind the division."""
    return min([GREATEST_WIDTH, bits - low])


def copied_block(block):
    """The block, with lists of its own."""
    length, mixer, kinds = block
    return (length, mixer, [kind if len(kind) == 1 else kind[:3] + (list(kind[3]),) for kind in kinds])


def is_block(bench, value):
    """Whether a value is a block, whether it goes anywhere or not."""
    if not isinstance(value, tuple) or len(value) != 3:
        return False
    length, mixer, kinds = value
    if not is_within(length, 1, MOST_SAMPLES) or not is_within(mixer, 0, bench.many_mixers() - 1):
        return False
    if not isinstance(kinds, list) or len(kinds) != bench.many_ways():
        return False
    return all([is_kind(bench, bits, length, kind) for bits, kind in zip(bench.bits_of_ways(mixer), kinds)])


def is_kind(bench, bits, length, value):
    """Whether a value is a kind of a way of so many bits in a block of so many samples."""
    if not isinstance(value, tuple) or len(value) not in (1, 4):
        return False
    if len(value) == 1:
        return value[0] == "still" or value[0] == "plain"
    return value[0] == "guessed" and is_guessed(bench, bits, length, value)


def is_guessed(bench, bits, length, value):
    """Whether a tuple of four tells the number of a guesser, a low and widths."""
    _, guesser, low, widths = value
    if not is_within(guesser, 0, len(bench.all_guessers()) - 1) or not is_within(low, 0, greatest_low(bits)):
        return False
    if not isinstance(widths, list) or len(widths) not in possible_parts(bench, length):
        return False
    return all([is_within(width, 0, greatest_width(bits, low)) for width in widths])


def possible_parts(bench, length):
    """Into how many parts a row of so many samples can be cut, ascending."""
    found = [1]
    while 2 * found[-1] <= bench.most_parts() and length & (2 * found[-1] - 1) == 0:
        found.append(2 * found[-1])
    return found


def mixed_rows(bench, mixer, ways, low, high):
    """What is mixed of the samples from `low` on that are below `high`, as a row for each way."""
    steps = bench.steps_of(mixer)
    moments = [run(steps, [way[at] for way in ways], 1, None) for at in range(low, high)]
    return [[moment[way] for moment in moments] for way in range(len(ways))]


def is_still(row):
    """Whether all samples of a row are one and the same."""
    return row.count(row[0]) == len(row)


def is_divided(row, low):
    """Whether 2 to the power of `low` divides all samples of a row."""
    below = (1 << low) - 1
    return not any([sample & below != 0 for sample in row])


def goes(kind, row):
    """Whether a kind goes for a row."""
    if kind[0] == "still":
        return is_still(row)
    return kind[0] == "plain" or is_divided(row, kind[2])


def rest_folds(guesser, depth, row):
    """The folds of the rests of a row of samples of a depth."""
    return [folded(wrapped(rest, depth)) for rest in unwrapped_rests(guesser, row)]


def stretches_for(bench, kind, row, bits):
    """For a row of so many bits that is guessed: its stretches of folds."""
    _, at, low, widths = kind
    folds = rest_folds(bench.all_guessers()[at], bits - low, [sample >> low for sample in row])
    length = len(folds) // len(widths)
    return [folds[first:first + length] for first in range(0, len(folds), length)]


def way_size(bench, kind, row, bits):
    """How many bits a way has in a block."""
    if kind[0] == "still":
        return 2 + bits
    if kind[0] == "plain":
        return 2 + bits * len(row)
    widths = kind[3]
    costs = [cost_at(stretch, width) for stretch, width in zip(stretches_for(bench, kind, row, bits), widths)]
    return 12 + 5 * len(widths) + sum(costs)


def way_bits(bench, kind, row, bits):
    """The bits of a way in a block."""
    if kind[0] == "still":
        return "00" + bits_of(folded(row[0]), bits)
    if kind[0] == "plain":
        return "01" + "".join([bits_of(folded(sample), bits) for sample in row])
    _, at, low, widths = kind
    head = "10" + bits_of(at, 4) + bits_of(low, 3) + bits_of(len(widths).bit_length() - 1, 3)
    told = "".join([bits_of(width, 5) for width in widths])
    rows = ["".join([fold_bits(number, width) for number in stretch])
            for stretch, width in zip(stretches_for(bench, kind, row, bits), widths)]
    return head + told + "".join(rows)


def size_of(bench, block, rows):
    """How many bits a block has that tells these mixed rows, None if one of its kinds does not go."""
    _, mixer, kinds = block
    if not all([goes(kind, row) for kind, row in zip(kinds, rows)]):
        return None
    wide = bench.bits_of_ways(mixer)
    ways = [way_size(bench, kind, row, bits) for kind, row, bits in zip(kinds, rows, wide)]
    return OPENING_BITS + WORD_BITS + sum(ways)


def bits_of_block(bench, first, block, rows):
    """The bits of a block from the sample with a number on, of which these are the mixed rows."""
    length, mixer, kinds = block
    wide = bench.bits_of_ways(mixer)
    ways = "".join([way_bits(bench, kind, row, bits) for kind, row, bits in zip(kinds, rows, wide)])
    size = OPENING_BITS + len(ways) + WORD_BITS
    told = bits_of(first, 12) + bits_of(length, 12) + bits_of(mixer, 3) + bits_of(size, 16)
    return with_word(with_word(told, opening_check()) + ways, block_check())


def with_word(bits, check):
    """Bits with their word behind them."""
    return bits + bits_of(word_of(check, bits), check.width)


def opening_check():
    """The check of heads and openings."""
    return Check(8, 29)


def block_check():
    """The check of whole blocks."""
    return Check(16, 4107)


def fitting_sizes(bench, sound, value):
    """The sizes of the blocks of a plan that fits a sound, None if a value is no such plan."""
    if not isinstance(value, list) or not all([is_block(bench, block) for block in value]):
        return None
    if sum([block[0] for block in value]) != sound.many():
        return None
    ways, sizes, low = sound.ways(), [], 0
    for block in value:
        size = size_of(bench, block, mixed_rows(bench, block[1], ways, low, low + block[0]))
        if size is None or size > MOST_BITS:
            return None
        sizes.append(size)
        low += block[0]
    return sizes
