"""Systems of sums that agree by 2 to the power of a depth.

A system is a list of rows, each with as many factors as there are unknown numbers, and a list of what
the sums have to agree with. All numbers are taken from 0 to less than 2 to the power of the depth.
"""


def inverse(odd, depth):
    """The number whose product with an odd one agrees with 1."""
    below = (1 << depth) - 1
    found = odd
    # An odd number is its own inverse by 8; each turn doubles the bits that are right.
    for _ in range(5):
        found = found * (2 - odd * found) & below
    return found


def lowest(number):
    """The power of 2 that a number above 0 is an odd multiple of, told by its exponent."""
    return (number & -number).bit_length() - 1


def stepped(rows, many, depth):
    """The rows brought by turns into steps, and the steps: tuples of a column and an exponent.

    Row by row, each step is 2 to the power of its exponent and divides all factors that are left to it
    and below; in all rows below its column is 0. Behind the first `many` columns rows may have others.
    """
    below = (1 << depth) - 1
    rows = [[number & below for number in row] for row in rows]
    free = list(range(many))
    found = []
    for first in range(len(rows)):
        at, column = least_factor(rows, first, free)
        if column is None:
            break
        rows[first], rows[at] = rows[at], rows[first]
        power = lowest(rows[first][column])
        turn = inverse(rows[first][column] >> power, depth)
        rows[first] = [number * turn & below for number in rows[first]]
        for low in range(first + 1, len(rows)):
            times = rows[low][column] >> power
            if times:
                rows[low] = [(number - times * over) & below for number, over in zip(rows[low], rows[first])]
        found.append((column, power))
        free.remove(column)
    return (rows, found)


def least_factor(rows, first, free):
    """The row and the column, among the free ones, of a factor with the least exponent, or two times None."""
    best = (None, None)
    least = None
    for at in range(first, len(rows)):
        for column in free:
            number = rows[at][column]
            if number and (least is None or number & -number < least):
                least = number & -number
                best = (at, column)
    return best


def joined_rows(rows, wanted):
    """Each row with the number that its sum has to agree with behind it."""
    return [row + [number] for row, number in zip(rows, wanted)]


def failing(rows, found, many, depth):
    """The first row of a system in steps that no numbers fulfil, or None."""
    for at, row in enumerate(rows):
        power = found[at][1] if at < len(found) else depth
        if row[many] & ((1 << power) - 1):
            return at
    return None


def solution(rows, wanted, many, depth):
    """Numbers that fulfil a system, or None."""
    rows, found = stepped(joined_rows(rows, wanted), many, depth)
    if failing(rows, found, many, depth) is not None:
        return None
    return led_back(rows, found, [0] * many, [row[many] for row in rows], depth)


def led_back(rows, found, numbers, wanted, depth):
    """The numbers, those of the given steps found from the last one to the first one."""
    below = (1 << depth) - 1
    numbers = list(numbers)
    for at in reversed(range(len(found))):
        column, power = found[at]
        known = sum([factor * number for factor, number in zip(rows[at], numbers)])
        numbers[column] = ((wanted[at] - known) & below) >> power
    return numbers


def refusal(rows, wanted, many, depth):
    """Factors of the rows that prove that no numbers fulfil a system, or None.

    With them all columns sum up to 0, and what is wanted does not.
    """
    marked = [row + [1 if at == own else 0 for own in range(len(rows))]
              for at, row in enumerate(joined_rows(rows, wanted))]
    rows, found = stepped(marked, many, depth)
    at = failing(rows, found, many, depth)
    if at is None:
        return None
    # What the step divides is 0 once it is taken so often; what it does not divide is not.
    times = 1 << (depth - found[at][1]) if at < len(found) else 1
    below = (1 << depth) - 1
    return [number * times & below for number in rows[at][many + 1:]]


def noughts(rows, many, depth):
    """Lists of numbers of which all that make every sum 0 are sums of multiples."""
    rows, found = stepped(rows, many, depth)
    lists = []
    for at, (column, power) in enumerate(found):
        if power > 0:
            lists.append(led_back(rows, found[:at], unit(many, column, 1 << (depth - power)), [0] * at, depth))
    steps = [column for column, _ in found]
    for column in range(many):
        if column not in steps:
            lists.append(led_back(rows, found, unit(many, column, 1), [0] * len(found), depth))
    return lists


def unit(many, at, number):
    """A list of so many numbers, all 0 but one."""
    return [number if place == at else 0 for place in range(many)]


def noughts_power(rows, many, depth):
    """The exponent of 2 that tells how many lists of numbers make every sum 0."""
    _, found = stepped(rows, many, depth)
    return sum([power for _, power in found]) + depth * (many - len(found))
