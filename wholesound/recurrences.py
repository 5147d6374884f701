"""Rows that go on for ever by a rule, told by numbers from 0 to less than 2 to the power of the depth."""

# Over two, what a rule of at most 8 weights does comes back after a number that divides the product of
# these and of 2 to the power of 3: each 2 ** k - 1 with k up to 8 divides it.
ODD_FACTORS = (3, 3, 5, 7, 17, 31, 127)
TWOS_OVER_TWO = 3


def row_from(depth, weights, firsts, many):
    """The first so many numbers of the row from firsts, at least the firsts themselves."""
    below = (1 << depth) - 1
    row = [number & below for number in firsts]
    backwards = weights[::-1]
    order = len(weights)
    for at in range(order, many):
        row.append(sum([weight * number for weight, number in zip(backwards, row[at - order:at])]) & below)
    return row


def shares_on(depth, weights, number):
    """Factors of neighbours in order, as many as weights, that sum up to what is so many places behind the first.

    They are the same for all rows that follow the rule, and all places.
    """
    shares = [1] + [0] * (len(weights) - 1)
    for at in reversed(range(number.bit_length())):
        shares = doubled(depth, weights, shares)
        if number >> at & 1:
            shares = moved_on(depth, weights, shares)
    return shares


def moved_on(depth, weights, shares):
    """The factors for the next place."""
    below = (1 << depth) - 1
    last = shares[-1]
    before = [0] + shares[:-1]
    return [(share + last * weight) & below for share, weight in zip(before, weights[::-1])]


def doubled(depth, weights, shares):
    """The factors for twice as many places on."""
    below = (1 << depth) - 1
    order = len(weights)
    product = [0] * (2 * order - 1)
    for at, share in enumerate(shares):
        for ahead, other in enumerate(shares):
            product[at + ahead] += share * other
    for at in reversed(range(order, len(product))):
        over = product[at] & below
        for ahead, weight in enumerate(weights):
            product[at - 1 - ahead] += over * weight
    return [share & below for share in product[:order]]


def number_on(depth, shares, row, at):
    """What the factors tell of the row from the place `at` on."""
    return sum([share * row[at + ahead] for ahead, share in enumerate(shares)]) & ((1 << depth) - 1)


def period_of(depth, weights, firsts):
    """The least head and length of the row from firsts."""
    order = len(weights)
    if order == 0:
        return (0, 1)
    # What dies out dies within so many places: chains of ever smaller sets of neighbours are no longer.
    tail = order * depth
    row = row_from(depth, weights, firsts, tail + 2 * order)
    length = 1 << (TWOS_OVER_TWO + depth - 1)
    for factor in ODD_FACTORS:
        length *= factor
    for factor in ODD_FACTORS + (2,) * (TWOS_OVER_TWO + depth - 1):
        if comes_again(depth, weights, row, tail, length // factor):
            length //= factor
    shares = shares_on(depth, weights, length)
    unlike = [at for at in range(tail) if number_on(depth, shares, row, at) != row[at]]
    return (unlike[-1] + 1 if unlike else 0, length)


def comes_again(depth, weights, row, tail, length):
    """Whether from the place `tail` on the row is like itself so many places on."""
    shares = shares_on(depth, weights, length)
    return all([number_on(depth, shares, row, tail + at) == row[tail + at] for at in range(len(weights))])
