"""Finding blocks in any bits, and the most samples that found blocks tell, in order and in any order, with papers."""

from wholesound.arguments import check_bits, check_within, is_count, is_number, is_numbers, is_within
from wholesound.blocks import bench_at
from wholesound.carriers import check_carrier, pieces_of
from wholesound.courses import block_standing
from wholesound.errors import InvalidFound, InvalidList
from wholesound.sounds import MOST_SAMPLES


def found(settings, depth, mark, bits):
    """The blocks that were carried, as tuples of place, first sample and length, and the samples of each."""
    bench = bench_at(settings, depth)
    check_carrier(mark)
    check_bits(bits)
    blocks, samples = [], []
    for place, row in pieces_of(mark, bits):
        standing = block_alone(bench, row)
        if standing is not None:
            first, block, ways = standing
            blocks.append((place, first, block[0]))
            samples.append(ways)
    return (blocks, samples)


def block_alone(bench, row):
    """The first sample, the block and the samples that a row tells if it is just the bits of a block, or None."""
    standing = None if row is None else block_standing(bench, row, 0)
    if standing is None or standing[3] != len(row):
        return None
    return standing[:3]


def is_block_told(value):
    """Whether a value is a tuple of a place, a first sample and a length."""
    if not isinstance(value, tuple) or len(value) != 3:
        return False
    place, first, length = value
    return is_count(place) and is_within(first, 0, MOST_SAMPLES) and is_within(length, 1, MOST_SAMPLES)


def check_blocks(blocks):
    """Refuse what is no list of blocks with ascending places."""
    if not isinstance(blocks, list) or not all([is_block_told(block) for block in blocks]):
        raise InvalidFound(blocks)
    if any([one[0] >= other[0] for one, other in zip(blocks, blocks[1:])]):
        raise InvalidFound(blocks)


def end_of(block):
    """The number behind that of a block's last sample."""
    return block[1] + block[2]


def chains_to(blocks):
    """For each block: the most samples of lists that end with it, how many have so many, and the block ahead of it."""
    told = []
    for at, block in enumerate(blocks):
        most, many, ahead = 0, 1, None
        for before in range(at):
            if end_of(blocks[before]) <= block[1]:
                if told[before][0] > most:
                    most, many, ahead = told[before][0], told[before][1], before
                elif told[before][0] == most:
                    many += told[before][1]
        told.append((most + block[2], many, ahead))
    return told


def chains_from(blocks):
    """For each block: the most samples of the lists that begin with it, and how many have so many."""
    told = []
    for block in reversed(blocks):
        most, many = 0, 1
        for behind, (samples, lists) in zip(reversed(blocks), told):
            if end_of(block) <= behind[1]:
                if samples > most:
                    most, many = samples, lists
                elif samples == most:
                    many += lists
        told.append((most + block[2], many))
    return told[::-1]


def most_of(chains):
    """The most samples of all lists."""
    return max([chain[0] for chain in chains], default=0)


def how_many_of(chains):
    """How many lists have the most samples."""
    most = most_of(chains)
    return 1 if chains == [] else sum([chain[1] for chain in chains if chain[0] == most])


def kept(blocks):
    """Ascending positions of blocks, each before the next one, with the most samples in all."""
    check_blocks(blocks)
    chains = chains_to(blocks)
    most, positions = most_of(chains), []
    at = [chain[0] for chain in chains].index(most) if chains else None
    while at is not None:
        positions.append(at)
        at = chains[at][2]
    return positions[::-1]


def most_in_order(blocks):
    """The most samples of blocks each of which is before the next one."""
    check_blocks(blocks)
    return most_of(chains_to(blocks))


def how_many_kept(blocks):
    """How many lists of positions have the most samples."""
    check_blocks(blocks)
    return how_many_of(chains_to(blocks))


def standing_in(blocks):
    """For each block in how many of the lists with the most samples it stands."""
    ahead, behind = chains_to(blocks), chains_from(blocks)
    most = most_of(ahead)
    return [left[1] * right[1] if left[0] + right[0] - block[2] == most else 0
            for left, right, block in zip(ahead, behind, blocks)]


def in_all(blocks):
    """The positions that stand in all lists with the most samples."""
    check_blocks(blocks)
    lists = how_many_of(chains_to(blocks))
    return [at for at, many in enumerate(standing_in(blocks)) if many == lists]


def in_some(blocks):
    """The positions that stand in some list with the most samples."""
    check_blocks(blocks)
    return [at for at, many in enumerate(standing_in(blocks)) if many > 0]


def kept_paper(blocks):
    """A number for each block that tells why no list of blocks, each before the next one, has more samples."""
    check_blocks(blocks)
    return [chain[0] for chain in chains_to(blocks)]


def is_kept_paper(blocks, value):
    """Whether a value is such numbers."""
    check_blocks(blocks)
    if not is_numbers(value) or len(value) != len(blocks):
        return False
    for at, block in enumerate(blocks):
        ahead = [value[before] for before in range(at) if end_of(blocks[before]) <= block[1]]
        if value[at] < block[2] + max([0] + ahead):
            return False
    return max(value, default=0) == most_of(chains_to(blocks))


def most_up_to(blocks):
    """For each number of a sample: the most samples of blocks without a common one that end at it or ahead.

    Beside it stands the position of a block that ends there in such a list, None if there is none.
    """
    by_end = {}
    for at, block in enumerate(blocks):
        by_end[end_of(block)] = by_end.get(end_of(block), []) + [at]
    told = [(0, None)]
    for end in range(1, max(list(by_end), default=0) + 1):
        most, position = told[-1][0], None
        for at in by_end.get(end, []):
            samples = told[blocks[at][1]][0] + blocks[at][2]
            if samples > most:
                most, position = samples, at
        told.append((most, position))
    return told


def most_kept(blocks):
    """Ascending positions of blocks without a common sample, whatever their places, with the most samples in all."""
    check_blocks(blocks)
    told, positions = most_up_to(blocks), []
    end = len(told) - 1
    while end > 0:
        position = told[end][1]
        if position is None:
            end -= 1
        else:
            positions.append(position)
            end = blocks[position][1]
    return sorted(positions)


def most_in_any(blocks):
    """The most samples of blocks without a common one."""
    check_blocks(blocks)
    return most_up_to(blocks)[-1][0]


def most_paper(blocks):
    """Prices of samples that tell why no blocks without a common sample have more samples."""
    check_blocks(blocks)
    sums = [pair[0] for pair in most_up_to(blocks)]
    grown = [other - one for one, other in zip(sums, sums[1:])]
    return [(number, price) for number, price in enumerate(grown) if price > 0]


def is_priced(value):
    """Whether a value is a list of tuples of a number and a price of at least 1, the numbers ascending."""
    if not isinstance(value, list):
        return False
    for item in value:
        if not isinstance(item, tuple) or len(item) != 2 or not is_number(item[0]) or not is_count(item[1]):
            return False
    ascending = all([one[0] < other[0] for one, other in zip(value, value[1:])])
    return ascending and all([price >= 1 for _, price in value])


def is_most_paper(blocks, value):
    """Whether a value is such prices."""
    check_blocks(blocks)
    if not is_priced(value):
        return False
    for block in blocks:
        if sum([price for number, price in value if block[1] <= number < end_of(block)]) < block[2]:
            return False
    return sum([price for _, price in value]) == most_up_to(blocks)[-1][0]


def is_samples_told(value, length):
    """Whether a value is a list, not empty, of lists of one length."""
    if not isinstance(value, list) or value == []:
        return False
    return all([isinstance(way, list) and len(way) == length for way in value])


def check_samples_told(blocks, samples):
    """Refuse what is no list with the samples of each block."""
    if not isinstance(samples, list) or len(samples) != len(blocks):
        raise InvalidList(samples)
    if not all([is_samples_told(ways, block[2]) for ways, block in zip(samples, blocks)]):
        raise InvalidList(samples)


def is_apart(blocks, chosen):
    """Whether a value is ascending positions of blocks that have no sample in common."""
    if not is_numbers(chosen) or any([one >= other for one, other in zip(chosen, chosen[1:])]):
        return False
    if not all([0 <= at < len(blocks) for at in chosen]):
        return False
    spans = sorted([(blocks[at][1], end_of(blocks[at])) for at in chosen])
    return all([one[1] <= other[0] for one, other in zip(spans, spans[1:])])


def patched(blocks, samples, chosen, many):
    """What so many samples become with the chosen blocks: what is told and what is lost, in order."""
    check_blocks(blocks)
    check_samples_told(blocks, samples)
    if not is_apart(blocks, chosen):
        raise InvalidList(chosen)
    check_within(many, max([end_of(blocks[at]) for at in chosen], default=0), 2 * MOST_SAMPLES)
    told, place = [], 0
    for first, at in sorted([(blocks[position][1], position) for position in chosen]):
        if first > place:
            told.append(("lost", place, first - place))
        told.append(("told", first, [list(way) for way in samples[at]]))
        place = end_of(blocks[at])
    return told + ([("lost", place, many - place)] if many > place else [])
