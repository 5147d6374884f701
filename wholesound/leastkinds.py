"""The least blocks: for each way of a block the first of the kinds with the fewest bits."""

from wholesound.blocks import OPENING_BITS, WORD_BITS, greatest_low, greatest_width, is_divided, is_still
from wholesound.blocks import mixed_rows, possible_parts, rest_folds


def all_rows(bench, sound):
    """For each mixer the mixed rows of a whole sound."""
    ways, many = sound.ways(), sound.many()
    return [mixed_rows(bench, mixer, ways, 0, many) for mixer in range(bench.many_mixers())]


def lows_of(row, bits):
    """The exponents of the powers of 2 that divide all samples of a row of so many bits, ascending."""
    return [low for low in range(greatest_low(bits) + 1) if is_divided(row, low)]


def costs_of(stretch, greatest):
    """What a stretch of folds costs at each width up to the greatest one."""
    many = len(stretch)
    return [sum([number >> width for number in stretch]) + many * (1 + width) for width in range(greatest + 1)]


def costs_by_stretch(folds, parts, greatest):
    """For each of so many stretches of one length what it costs at each width."""
    length = len(folds) // parts
    return [costs_of(folds[at * length:(at + 1) * length], greatest) for at in range(parts)]


def halved(costs):
    """The costs of half as many stretches, each of two side by side."""
    pairs = [(costs[at], costs[at + 1]) for at in range(0, len(costs), 2)]
    return [[one + other for one, other in zip(left, right)] for left, right in pairs]


def least_widths(bench, folds, greatest):
    """The fewest bits for the widths and the stretches of folds, and the first such widths."""
    costs = costs_by_stretch(folds, possible_parts(bench, len(folds))[-1], greatest)
    best = least_of(costs)
    while len(costs) > 1:
        costs = halved(costs)
        told = least_of(costs)
        # Of as many bits the fewer widths come first.
        if told[0] <= best[0]:
            best = told
    return best


def least_of(costs):
    """The fewest bits for one width for each stretch, and the first such widths."""
    leasts = [min(row) for row in costs]
    return (5 * len(costs) + sum(leasts), [row.index(least) for row, least in zip(costs, leasts)])


def least_way(bench, row, bits):
    """The fewest bits of a way that tells a row of so many bits, and the first kind of so few."""
    best = (2 + bits, ("still",)) if is_still(row) else (2 + bits * len(row), ("plain",))
    lows = lows_of(row, bits)
    for at, guesser in enumerate(bench.all_guessers()):
        for low in lows:
            folds = rest_folds(guesser, bits - low, [sample >> low for sample in row])
            size, widths = least_widths(bench, folds, greatest_width(bits, low))
            if 12 + size < best[0]:
                best = (12 + size, ("guessed", at, low, widths))
    return best


def least_block_of(bench, rows_by_mixer, low, length):
    """The size of the least blocks of the samples from `low` on, so many, and the first such block."""
    best = None
    for mixer, rows in enumerate(rows_by_mixer):
        wide = bench.bits_of_ways(mixer)
        ways = [least_way(bench, row[low:low + length], bits) for row, bits in zip(rows, wide)]
        size = OPENING_BITS + WORD_BITS + sum([told[0] for told in ways])
        if best is None or size < best[0]:
            best = (size, (length, mixer, [told[1] for told in ways]))
    return best
