"""Least plans: of all plans that settings let, the first of those with the fewest bits, and prices that prove it."""

from wholesound.arguments import check_within, is_number
from wholesound.blocks import MOST_BITS, bench_for, fitting_sizes
from wholesound.courses import HEAD_BITS
from wholesound.errors import InvalidPlan
from wholesound.leastkinds import all_rows, least_block_of


def least_block(settings, sound, place, length):
    """The size of the least blocks of a length from a place on, and the first of them."""
    bench = bench_for(settings, sound)
    check_within(place, 0, sound.many() - 1)
    check_within(length, 1, sound.many() - place)
    return least_block_of(bench, all_rows(bench, sound), place, length)


def reached_places(lengths, many):
    """For each place whether lengths add up to it."""
    found = [True]
    for place in range(1, many + 1):
        found.append(any([length <= place and found[place - length] for length in lengths]))
    return found


def blocks_let(settings, bench, sound):
    """For each place that lengths add up to a list of the least blocks from it on, with their sizes."""
    lengths, many = settings.lengths(), sound.many()
    rows, reached = all_rows(bench, sound), reached_places(lengths, many)
    found = []
    for place in range(many + 1):
        told = []
        if reached[place]:
            within = [length for length in lengths if place + length <= many]
            told = [least_block_of(bench, rows, place, length) for length in within]
        found.append([block for block in told if block[0] <= MOST_BITS])
    return found


def prices_of(blocks):
    """The least size of a plan up to each place, None where there is none."""
    told = [HEAD_BITS] + [None] * (len(blocks) - 1)
    for place, let in enumerate(blocks):
        if told[place] is not None:
            for size, block in let:
                end, price = place + block[0], told[place] + size
                if told[end] is None or price < told[end]:
                    told[end] = price
    return told


def sizes_from(blocks):
    """The least size of blocks from each place to the end, None where there are none."""
    left = [None] * (len(blocks) - 1) + [0]
    for place in reversed(range(len(blocks) - 1)):
        ends = [(size, place + block[0]) for size, block in blocks[place]]
        left[place] = min([size + left[end] for size, end in ends if left[end] is not None], default=None)
    return left


def least_plan(settings, sound):
    """The least size of all plans that are let, and the first plan of least blocks that has it; or None."""
    return least_plan_by(settings, bench_for(settings, sound), sound)


def least_plan_by(settings, bench, sound):
    """What `least_plan` tells of a sound that is looked at already."""
    blocks = blocks_let(settings, bench, sound)
    left = sizes_from(blocks)
    if left[0] is None:
        return None
    plan, place = [], 0
    while place < sound.many():
        # The blocks stand in the order of their lengths: the first one that leads on to the least is taken.
        least = [block for size, block in blocks[place] if leads_on(left, place, size, block)]
        plan.append(least[0])
        place += least[0][0]
    return (HEAD_BITS + left[0], plan)


def leads_on(left, place, size, block):
    """Whether a block of a size leads from a place on to the least of all."""
    behind = left[place + block[0]]
    return behind is not None and size + behind == left[place]


def prices(settings, sound):
    """The least size of a plan of the samples ahead of each place, None where lengths do not add up."""
    bench = bench_for(settings, sound)
    return prices_of(blocks_let(settings, bench, sound))


def is_prices(settings, sound, value):
    """Whether a value is prices of a sound."""
    bench = bench_for(settings, sound)
    if not isinstance(value, list) or len(value) != sound.many() + 1:
        return False
    reached = reached_places(settings.lengths(), sound.many())
    if not all([is_number(price) if let else price is None for price, let in zip(value, reached)]):
        return False
    if value[0] != HEAD_BITS:
        return False
    blocks = blocks_let(settings, bench, sound)
    over = [place for place, let in enumerate(blocks)
            if any([value[place + block[0]] > value[place] + size for size, block in let])]
    return over == []


def spare(settings, sound, plan):
    """By how many bits a plan that fits is greater than the least that is let, None if none is."""
    bench = bench_for(settings, sound)
    sizes = fitting_sizes(bench, sound, plan)
    if sizes is None:
        raise InvalidPlan(plan)
    left = sizes_from(blocks_let(settings, bench, sound))[0]
    return None if left is None else sum(sizes) - left
