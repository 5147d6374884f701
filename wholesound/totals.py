"""What is so for all rows of so many folds with one sum: their first widths, and how much a width can lose.

A fold `u` has `u // 2 ** k` signs at a width k. A width loses against another one by the greatest
difference of both prices over all rows, and that is told by the signs that the folds have more or less.
"""


def width_with_rows(many, total, width):
    """Whether a width is the first with the least price for some row."""
    if total > many * ((3 << width) - 1):
        return False
    return width == 0 or total >= (many << (width - 1)) + (1 << width)


def row_with_first(many, total, width):
    """A row for which a width, the first one for some row, is the first with the least price."""
    # With folds of half a sign and a greater one the width below is dearer; no folds up to the bound make one
    # above cheaper. So whatever is left fills one fold behind the other up to the bound.
    least, most = (1 << width) >> 1, (3 << width) - 1
    left = total - many * least
    row = []
    for _ in range(many):
        more = min([left, most - least])
        row.append(least + more)
        left -= more
    return row


def rounded_up(number, by):
    """A number divided by another one above 0, rounded up."""
    return -(-number // by)


def most_saved(many, total, width, greater):
    """The most signs that a row has less at a greater width."""
    ratio = 1 << (greater - width)
    signs = total >> width
    if signs <= many * (ratio - 1):
        return signs
    # Of the signs of a fold every one that makes up a sign of the greater width is not saved; with one more
    # for each fold, as if all began with such a one, it is one of each `ratio`.
    return signs + many - rounded_up(signs + many, ratio)


def fewest_added(many, total, width, less):
    """The fewest signs that a row has more at a less width."""
    ratio = 1 << (width - less)
    # So many signs of the less width are left once each fold has had all that makes up none.
    signs = rounded_up(total + many, 1 << less) - many
    return signs - signs // ratio if signs > 0 else 0


def most_lost(many, total, width, other):
    """By how much the price at a width is at most above that at another one."""
    own = many * (width - other)
    if other > width:
        return own + most_saved(many, total, width, other)
    if other < width:
        return own - fewest_added(many, total, width, other)
    return own


def row_that_loses(many, total, width, other):
    """A row for which the price at a width is above that at another one by the most."""
    # Each fold but the first has as much as all its signs are saved for, or as adds none; what is left, all in
    # one fold, saves the most or adds the fewest.
    most = (1 << other) - (1 << width) if other > width else (1 << other) - 1
    left = total
    row = []
    for _ in range(many - 1):
        more = min([left, most])
        row.append(more)
        left -= more
    return [left] + row
