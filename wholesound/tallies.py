"""How many of all rows of folds below a power of 2 have each first width and least price."""

from math import comb


def lists_with_sum(many, below, total):
    """How many lists of so many counts below a bound add up to a total."""
    if many == 0 or not 0 <= total <= many * (below - 1):
        return 1 if many == 0 and total == 0 else 0
    found = 0
    for over in range(min([many, total // below]) + 1):
        # Lists in which so many counts chosen ahead are not below the bound, taken off and put back by turns.
        lists = comb(many, over) * comb(total - over * below + many - 1, many - 1)
        found = found - lists if over & 1 else found + lists
    return found


def rows_by_signs(many, bits):
    """By the sum of folds of so many bits: how many rows of the sum make no greater width cheaper."""
    if bits == 0:
        return {0: 1}
    rows = {}
    for halves in range(many + 1):
        lists = lists_with_sum(many, 1 << (bits - 1), halves)
        # A next width costs as many more as there are folds, less their halves and the odd ones.
        for odd in range(many - halves + 1):
            signs = 2 * halves + odd
            rows[signs] = rows.get(signs, 0) + lists * comb(many, odd)
    return rows


def rows_below(many, signs, width):
    """In how many ways the bits below a width can be so that the width below is dearer."""
    if width == 0:
        return 1
    # It is dearer if the signs and the ones among the bits just below are more than the folds.
    least = max([many + 1 - signs, 0])
    return sum([comb(many, ones) for ones in range(least, many + 1)]) << (many * (width - 1))


def least_prices(many, bits):
    """All tuples of a first width, a least price, and the number of rows of so many folds that have both."""
    found = []
    for width in range(bits + 1):
        for signs, rows in rows_by_signs(many, bits - width).items():
            found.append((width, signs + many * (1 + width), rows * rows_below(many, signs, width)))
    return found
