"""Folds written as bits, cut into stretches of a width each, and what a cut can gain."""

from wholesound.arguments import check_bits, check_count, check_from, check_within, is_number, is_numbers, is_within
from wholesound.bitrows import fold_bits, folds_read, turned_at
from wholesound.shares import GREATEST_WIDTH, best_widths, check_folds, check_width, cost_at, longest_bits


def written(folds, width):
    """The bits of folds at a width."""
    check_folds(folds)
    check_width(width)
    return all_bits(folds, width)


def all_bits(folds, width):
    """The bits of folds, one behind the other."""
    return "".join([fold_bits(number, width) for number in folds])


def read_folds(bits, width, many):
    """The first folds, so many, that bits tell, and the bits behind them; None if they end within."""
    check_bits(bits)
    check_width(width)
    check_count(many)
    folds, ends = folds_read(bits, 0, width, many)
    if len(folds) < many:
        return None
    return (folds, bits[last_end(ends):])


def last_end(ends):
    """The place behind the last fold, 0 if there is none."""
    return ends[-1] if ends else 0


def readings(bits, most):
    """All widths up to `most` at which bits are just folds, each with these."""
    check_bits(bits)
    check_width(most)
    found = []
    for width in range(most + 1):
        folds, ends = folds_read(bits, 0, width, len(bits))
        if last_end(ends) == len(bits):
            found.append((width, folds))
    return found


def both_read(one, other):
    """The first of the shortest bits that are folds at both widths, with the folds of each."""
    check_width(one)
    check_width(other)
    bits = shortest_of_both(one, other)
    return (bits, folds_read(bits, 0, one, len(bits))[0], folds_read(bits, 0, other, len(bits))[0])


def state_behind(state, sign, width):
    """Where a reader is behind a sign: 0 between folds, -1 among ones, else how many low bits are to come."""
    if state > 0:
        return state - 1
    return -1 if sign == "1" else width


def shortest_of_both(one, other):
    """The first of the shortest bits, not empty, behind which readers at both widths are between folds."""
    steps, level = {}, [(0, 0)]
    # Level by level, each in order: so each pair of states is reached by the first of the shortest bits.
    while (0, 0) not in steps:
        reached = []
        for pair in level:
            for sign in "01":
                behind = (state_behind(pair[0], sign, one), state_behind(pair[1], sign, other))
                if behind not in steps:
                    steps[behind] = (pair, sign)
                    reached.append(behind)
        level = reached
    pair, sign = steps[(0, 0)]
    signs = [sign]
    while pair != (0, 0):
        pair, sign = steps[pair]
        signs.append(sign)
    return "".join(signs[::-1])


def turned_reading(folds, width, at):
    """What is read where one bit is turned: folds, the bits behind, and from where on folds end as before."""
    check_folds(folds)
    check_width(width)
    check_within(at, 0, cost_at(folds, width) - 1)
    bits = all_bits(folds, width)
    turned = turned_at(bits, at)
    ends = {end: True for end in folds_read(bits, 0, width, len(bits))[1]}
    read, others = folds_read(turned, 0, width, len(turned))
    both = [end for end in others if end > at and end in ends]
    return (read, turned[last_end(others):], both[0] if both else None)


def check_cutting(folds, few, cost, bits):
    """Refuse what are no folds, no least length, no cost of a stretch, and no number of bits or None."""
    check_folds(folds)
    check_from(few, 1)
    check_count(cost)
    if bits is not None:
        check_count(bits)


def raw_from(folds, bits):
    """For each place the place up to which all folds from it on are below 2 to the power of the bits."""
    ends = [len(folds)] * (len(folds) + 1)
    for at in reversed(range(len(folds))):
        if bits is None or folds[at].bit_length() > bits:
            ends[at] = at
        else:
            ends[at] = ends[at + 1]
    return ends


def sums_to(folds, width):
    """What the folds ahead of each place cost at a width."""
    sums = [0]
    for number in folds:
        sums.append(sums[-1] + (number >> width) + 1 + width)
    return sums


def stretch_costs(folds, few, cost, bits):
    """For each place a list of what the stretches of at least `few` folds from it on cost, each at its least."""
    # At greater widths than a fold has bits no price is less.
    sums = [sums_to(folds, width) for width in range(min([longest_bits(folds), GREATEST_WIDTH]) + 1)]
    raw = raw_from(folds, bits)
    found = []
    for low in range(len(folds) + 1):
        costs = []
        for high in range(low + few, len(folds) + 1):
            least = min([row[high] - row[low] for row in sums])
            if high <= raw[low]:
                least = min([least, bits * (high - low)])
            costs.append(cost + least)
        found.append(costs)
    return found


def least_totals(costs, few):
    """The least that cuts up to each place cost, None where there are none."""
    totals = [0] + [None] * (len(costs) - 1)
    for high in range(few, len(costs)):
        lows = [low for low in range(high - few + 1) if totals[low] is not None]
        totals[high] = min([totals[low] + costs[low][high - few - low] for low in lows])
    return totals


def lengths_behind(costs, totals, few):
    """The lengths of stretches that cost the least total."""
    lengths, high = [], len(totals) - 1
    while high > 0:
        low = 0
        while totals[low] is None or totals[low] + costs[low][high - few - low] != totals[high]:
            low += 1
        lengths.append(high - low)
        high = low
    return lengths[::-1]


def width_for(stretch, bits):
    """The width at which a stretch costs the least, None for as many bits for each fold."""
    price, first, _ = best_widths(stretch)
    raw = bits is not None and longest_bits(stretch) <= bits and bits * len(stretch) < price
    return None if raw else first


def least_cuts(folds, few, cost, bits=None):
    """The least that cuts cost, such cuts, and numbers for the places that no cuts beat; None without cuts."""
    check_cutting(folds, few, cost, bits)
    if 0 < len(folds) < few:
        return None
    costs = stretch_costs(folds, few, cost, bits)
    totals = least_totals(costs, few)
    cuts, low = [], 0
    for length in lengths_behind(costs, totals, few):
        cuts.append((length, width_for(folds[low:low + length], bits)))
        low += length
    # Where no cuts can end no stretch ends, so a great number there is beaten by none.
    greatest = max([total for total in totals if total is not None])
    return (totals[-1], cuts, [greatest if total is None else total for total in totals])


def is_cuts(folds, few, bits, value):
    """Whether a value is cuts of folds."""
    if not isinstance(value, list):
        return False
    for cut in value:
        if not isinstance(cut, tuple) or len(cut) != 2 or not is_number(cut[0]) or cut[0] < few:
            return False
        if cut[1] is not None and not is_within(cut[1], 0, GREATEST_WIDTH):
            return False
    if sum([length for length, _ in value]) != len(folds):
        return False
    raw, low = raw_from(folds, bits), 0
    for length, width in value:
        if width is None and low + length > raw[low]:
            return False
        low += length
    return True


def cuts_cost(folds, cost, bits, cuts):
    """What cuts cost in all."""
    total, low = 0, 0
    for length, width in cuts:
        stretch = folds[low:low + length]
        total += cost + (bits * length if width is None else cost_at(stretch, width))
        low += length
    return total


def is_cuts_paper(folds, few, cost, bits, value):
    """Whether a value is a least total, cuts that cost it, and numbers for the places that prove it."""
    check_cutting(folds, few, cost, bits)
    if not isinstance(value, tuple) or len(value) != 3:
        return False
    total, cuts, prices = value
    if not is_number(total) or not is_cuts(folds, few, bits, cuts):
        return False
    if not is_numbers(prices) or len(prices) != len(folds) + 1:
        return False
    if prices[-1] - prices[0] != total or cuts_cost(folds, cost, bits, cuts) != total:
        return False
    costs = stretch_costs(folds, few, cost, bits)
    over = [low for low, row in enumerate(costs)
            if any([prices[low + few + at] - prices[low] > least for at, least in enumerate(row)])]
    return over == []


def how_many_cuts(folds, few, cost, bits=None):
    """How many lists of lengths cost the least total, each stretch at its least."""
    check_cutting(folds, few, cost, bits)
    if 0 < len(folds) < few:
        return 0
    costs = stretch_costs(folds, few, cost, bits)
    totals = least_totals(costs, few)
    lists = [1]
    for high in range(1, len(totals)):
        lows = [low for low in range(high - few + 1) if totals[low] is not None]
        lists.append(sum([lists[low] for low in lows if totals[low] + costs[low][high - few - low] == totals[high]]))
    return lists[-1]


def gain_beside(noughts, full, bits):
    """The gain of a cut between noughts and folds of this many ones, each so many."""
    greatest = (1 << bits) - 1
    widths = range(min([bits, GREATEST_WIDTH]) + 1)
    others = [full * ((greatest >> width) + 1 + width) for width in widths]
    both = [price + noughts * (1 + width) for width, price in enumerate(others)]
    return min(both) - min(others) - noughts


def greatest_gain(one, other, bits):
    """The greatest gain of a cut over all rows of so many folds of so many bits."""
    check_rows(one, other, bits)
    return most_gained(one, other, bits)


def check_rows(one, other, bits):
    """Refuse what are no numbers of folds and of bits."""
    check_count(one)
    check_count(other)
    check_count(bits)


def most_gained(one, other, bits):
    """The greater gain of both orders of noughts and ones."""
    return max([gain_beside(one, other, bits), gain_beside(other, one, bits)])


def gain_rows(one, other, bits):
    """Two rows between which a cut has the greatest gain."""
    check_rows(one, other, bits)
    full = (1 << bits) - 1
    if gain_beside(one, other, bits) == most_gained(one, other, bits):
        return ([0] * one, [full] * other)
    return ([full] * one, [0] * other)


def never_pays(one, other, bits, cost):
    """Whether no cut between rows of so many folds of so many bits gains more than it costs."""
    check_rows(one, other, bits)
    check_count(cost)
    return most_gained(one, other, bits) <= cost


def halves(folds, most):
    """The sums of the least prices of 1, 2, 4 .. stretches of one length."""
    check_folds(folds)
    check_count(most)
    return halved_sums(folds, most)


def halved_sums(folds, most):
    """The sums as often as the folds can be halved, at most so often."""
    sums = []
    while len(sums) <= most and len(folds) & ((1 << len(sums)) - 1) == 0:
        length = len(folds) >> len(sums)
        stretches = [folds[at * length:(at + 1) * length] for at in range(1 << len(sums))]
        sums.append(sum([best_widths(stretch)[0] for stretch in stretches]))
    return sums


def least_half(folds, most, cost):
    """How often folds are halved for the least sum with a cost for each stretch, and this sum."""
    check_folds(folds)
    check_count(most)
    check_count(cost)
    totals = [total + (cost << times) for times, total in enumerate(halved_sums(folds, most))]
    return (totals.index(min(totals)), min(totals))
