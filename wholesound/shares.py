"""Prices of folds, the width that takes the least, and what is so for all rows of a number and a sum."""

from math import comb

from wholesound.arguments import check_count, check_from, is_counts, is_within
from wholesound.errors import InvalidCounts, InvalidFolds, InvalidWidth
from wholesound.quotients import fraction
from wholesound.tallies import least_prices
from wholesound.totals import most_lost, row_that_loses, row_with_first, width_with_rows

GREATEST_WIDTH = 120


def check_folds(folds):
    """Refuse what is no list of counts."""
    if not is_counts(folds):
        raise InvalidFolds(folds)


def check_width(width):
    """Refuse what is no width."""
    if not is_within(width, 0, GREATEST_WIDTH):
        raise InvalidWidth(width)


def check_rows(many, total):
    """Refuse what is no number and no sum of folds."""
    check_from(many, 1)
    check_count(total)


def cost_at(folds, width):
    """The sum of what the folds cost at a width."""
    return sum([number >> width for number in folds]) + len(folds) * (1 + width)


def longest_bits(folds):
    """How many bits the greatest fold has."""
    return max([number.bit_length() for number in folds], default=0)


def price(folds, width):
    """The sum of what the folds cost at a width."""
    check_folds(folds)
    check_width(width)
    return cost_at(folds, width)


def bit_counts(folds):
    """For each bit, from the lowest one, in how many folds it is set."""
    check_folds(folds)
    return [sum([(number >> at) & 1 for number in folds]) for at in range(longest_bits(folds))]


def same_prices(one, other):
    """Whether two lists of folds have the same price at every width."""
    return parting_width(one, other) is None


def parting_width(one, other):
    """The least width at which two lists of folds have not the same price, or None."""
    check_folds(one)
    check_folds(other)
    # Once all bits are gone, the price tells the number of the folds alone.
    for width in range(longest_bits(one + other) + 1):
        if cost_at(one, width) != cost_at(other, width):
            return width
    return None


def row_of_counts(many, counts):
    """The folds, so many, in which each bit is set in just the first ones, as many as its count tells."""
    check_count(many)
    if not is_counts(counts) or any([count > many for count in counts]):
        raise InvalidCounts(counts)
    return [sum([1 << at for at, count in enumerate(counts) if place < count]) for place in range(many)]


def how_many_like(folds):
    """How many lists of as many folds have the same price at every width."""
    many = 1
    for count in bit_counts(folds):
        many *= comb(len(folds), count)
    return many


def least_width(folds):
    """The least price of all widths, and the least and the greatest width that has it."""
    check_folds(folds)
    return best_widths(folds)


def best_widths(folds):
    """What `least_width` tells of folds that are looked at already."""
    if folds == []:
        return (0, 0, None)
    first = 0
    while rise(folds, first) < 0:
        first += 1
    last = first
    while rise(folds, last) == 0:
        last += 1
    return (cost_at(folds, first), first, last)


def rise(folds, width):
    """By how much the next width costs more."""
    return len(folds) - sum([((number >> width) + 1) // 2 for number in folds])


def price_bounds(many, total, width):
    """The least and the greatest price at a width of rows of so many folds with this sum."""
    check_rows(many, total)
    check_width(width)
    own = many * (1 + width)
    # What is not worth a sign more costs nothing: so much of it goes into the folds at most.
    over = max([total - many * ((1 << width) - 1), 0])
    return (own - (-over >> width), own + (total >> width))


def possible_widths(many, total):
    """The least and the greatest width that is the first with the least price for some row."""
    check_rows(many, total)
    least = 0
    while not width_with_rows(many, total, least):
        least += 1
    greatest = least
    while width_with_rows(many, total, greatest + 1):
        greatest += 1
    return (least, greatest)


def width_row(many, total, width):
    """A row for which a width is the first with the least price, or None."""
    check_rows(many, total)
    check_width(width)
    return row_with_first(many, total, width) if width_with_rows(many, total, width) else None


def worst_width(many, total, width):
    """The greatest loss at a width, and a width that costs so much less for some row."""
    least, greatest = possible_widths(many, total)
    # Each row has its least price at one of these widths.
    return max([(most_lost(many, total, width, other), other) for other in range(least, greatest + 1)])


def loss(many, total, width):
    """By how much the price at a width is above the least one, for the row for which it is the most."""
    check_rows(many, total)
    check_width(width)
    return worst_width(many, total, width)[0]


def loss_row(many, total, width):
    """A row for which the price at a width is the most above its least one."""
    check_rows(many, total)
    check_width(width)
    return row_that_loses(many, total, width, worst_width(many, total, width)[1])


def safest(many, total):
    """The least width with the least loss of all, and this loss."""
    check_rows(many, total)
    losses = [worst_width(many, total, width)[0] for width in range(GREATEST_WIDTH + 1)]
    return (losses.index(min(losses)), min(losses))


def how_many_least(many, bits, size):
    """How many rows of so many folds of so many bits have this least price."""
    check_from(many, 1)
    check_count(bits)
    check_count(size)
    return sum([rows for _, least, rows in least_prices(many, bits) if least == size])


def how_many_with(many, bits, width):
    """How many rows of so many folds of so many bits have this first width with the least price."""
    check_from(many, 1)
    check_count(bits)
    check_width(width)
    return sum([rows for first, _, rows in least_prices(many, bits) if first == width])


def mean_least(many, bits):
    """The mean of the least prices of all rows of so many folds of so many bits."""
    check_from(many, 1)
    check_count(bits)
    return fraction(sum([least * rows for _, least, rows in least_prices(many, bits)]), 1 << (many * bits))
