"""What is so for all rows of samples of a depth, whatever guesser and width tell them."""

from wholesound.arguments import check_count, check_depth, check_within, is_within
from wholesound.errors import InvalidNumber, InvalidRow, InvalidWidth
from wholesound.guessers import check_guesser, rests, row_of
from wholesound.quotients import fraction
from wholesound.samples import folded, is_samples, unfolded
from wholesound.sounds import GREATEST_DEPTH
from wholesound.tallies import lists_with_sum

MOST_SAMPLES = 200
GREATEST_LEFT = 10


def check_told_at(depth, width):
    """Refuse what is no depth, or no width from 0 to the depth."""
    check_depth(depth, GREATEST_DEPTH)
    if not is_within(width, 0, depth):
        raise InvalidWidth(width)


def rows_of_size(depth, width, many, size):
    """How many lists of so many folds below 2 to the power of the depth have prices of this sum."""
    signs = size - many * (1 + width)
    return lists_with_sum(many, 1 << (depth - width), signs) << (many * width)


def how_many(depth, width, many, size):
    """How many rows of so many samples have this size by a guesser, whichever it is."""
    check_told_at(depth, width)
    check_within(many, 0, MOST_SAMPLES)
    check_count(size)
    return rows_of_size(depth, width, many, size)


def size_bounds(depth, width, many):
    """The least and the greatest size that a row of so many samples has."""
    check_told_at(depth, width)
    check_within(many, 0, MOST_SAMPLES)
    greatest = (1 << (depth - width)) - 1
    return (many * (1 + width), many * (1 + width + greatest))


def lists_by_sum(many, below):
    """For each number up to `many` of counts below a bound: how many lists of them have each sum."""
    rows = [[1]]
    for _ in range(many):
        last, running, row = rows[-1], 0, []
        for total in range(len(last) + below - 1):
            if total < len(last):
                running += last[total]
            if total >= below:
                running -= last[total - below]
            row.append(running)
        rows.append(row)
    return rows


def at_sum(row, total):
    """How many lists have a sum."""
    return row[total] if 0 <= total < len(row) else 0


def row_at(guesser, depth, width, many, size, number):
    """The row of this size with a number, in the order of the folds of the rests."""
    check_guesser(guesser)
    check_told_at(depth, width)
    check_within(many, 0, MOST_SAMPLES)
    check_count(size)
    check_count(number)
    if number >= rows_of_size(depth, width, many, size):
        raise InvalidNumber(number)
    folds = folds_at(depth, width, many, size, number)
    return row_of(guesser, depth, [unfolded(one) for one in folds])


def folds_at(depth, width, many, size, number):
    """The list of folds of this size with a number, in order."""
    rows = lists_by_sum(many, 1 << (depth - width))
    signs, folds = size - many * (1 + width), []
    for behind in reversed(range(many)):
        # Each sign of a fold has its low bits free, and so has each fold behind it.
        high = 0
        lists = at_sum(rows[behind], signs) << (width * behind)
        while number >= lists << width:
            number -= lists << width
            high += 1
            lists = at_sum(rows[behind], signs - high) << (width * behind)
        folds.append((high << width) + number // lists)
        number %= lists
        signs -= high
    return folds


def number_of(guesser, depth, width, row):
    """The size of a row and its number among the rows of this size."""
    check_guesser(guesser)
    check_told_at(depth, width)
    if not is_samples(row, depth) or len(row) > MOST_SAMPLES:
        raise InvalidRow(row)
    folds = [folded(rest) for rest in rests(guesser, depth, row)]
    signs = sum([number >> width for number in folds])
    return (signs + len(folds) * (1 + width), number_of_folds(depth, width, folds, signs))


def number_of_folds(depth, width, folds, signs):
    """How many lists with as many signs stand ahead of folds, in order."""
    rows = lists_by_sum(len(folds), 1 << (depth - width))
    ahead = 0
    for at, number in enumerate(folds):
        behind = len(folds) - 1 - at
        high = number >> width
        lower = sum([at_sum(rows[behind], signs - less) for less in range(high)]) << width
        lower += (number - (high << width)) * at_sum(rows[behind], signs - high)
        ahead += lower << (width * behind)
        signs -= high
    return ahead


def fair(depth, width):
    """What the numbers 1 by 2 to the power of the price of all samples of a depth add up to."""
    check_depth(depth, GREATEST_DEPTH)
    if not is_within(width, 0, depth) or depth - width > GREATEST_LEFT:
        raise InvalidWidth(width)
    # All samples with as many signs come to a half, a quarter and so on: only the last part is left over.
    whole = 1 << (1 << (depth - width))
    return fraction(whole - 1, whole)


def twice_the_mean(depth, width):
    """Twice the mean price of all samples of a depth."""
    return 2 * (1 + width) + (1 << (depth - width)) - 1


def mean(depth, width):
    """The mean price of all samples of a depth."""
    check_told_at(depth, width)
    return fraction(twice_the_mean(depth, width), 2)


def least_means(depth):
    """The widths with the least mean price of all samples of a depth."""
    check_depth(depth, GREATEST_DEPTH)
    means = [twice_the_mean(depth, width) for width in range(depth + 1)]
    return [width for width, told in enumerate(means) if told == min(means)]


def gap(one, other, depth):
    """How much dearer a sample can be at one width than at the other one, and the least fold that is so much."""
    check_depth(depth, GREATEST_DEPTH)
    for width in (one, other):
        if not is_within(width, 0, depth):
            raise InvalidWidth(width)
    if one >= other:
        return (one - other, 0)
    # At the lesser width each next sign costs as much as at the greater one, or one more.
    highest = (1 << (depth - one)) - 1
    return (highest - (highest >> (other - one)) + one - other, highest << one)
