"""Systems of sums of whole numbers: a list of rows of factors, and what each row's sum has to be."""

from wholesound.quotients import divided, fraction, plus, times


def slanted(rows, many):
    """Columns brought by whole turns into steps, what made them, and the rows of the steps.

    Each column with a step is 0 ahead of its row, and each behind it is 0 in this row, too. What made a
    column are the factors of the old ones of which it is the sum.
    """
    columns = [[row[at] for row in rows] for at in range(many)]
    made = [[1 if at == own else 0 for own in range(many)] for at in range(many)]
    found = []
    for place in range(len(rows)):
        first = len(found)
        at = least_column(columns, first, place)
        while at is not None:
            columns[first], columns[at] = columns[at], columns[first]
            made[first], made[at] = made[at], made[first]
            for behind in range(first + 1, many):
                ratio = columns[behind][place] // columns[first][place]
                columns[behind] = less_times(columns[behind], columns[first], ratio)
                made[behind] = less_times(made[behind], made[first], ratio)
            if not any([column[place] for column in columns[first + 1:]]):
                found.append(place)
                break
            at = least_column(columns, first, place)
    return (columns, made, found)


def least_column(columns, first, place):
    """The column from `first` on that is least, but not 0, at a place, or None."""
    best = None
    for at in range(first, len(columns)):
        size = abs(columns[at][place])
        if size and (best is None or size < abs(columns[best][place])):
            best = at
    return best


def less_times(row, other, ratio):
    """A row less so many times another one."""
    return [number - ratio * second for number, second in zip(row, other)]


def turns_for(columns, found, wanted):
    """How often the columns of the steps are taken, row by row; then the first row that fails, and by what, or None.

    A row without a step fails if something is left there, and twice this is told; a row with a step fails
    if the step does not divide what is left, and the step is told.
    """
    turns = []
    for place, number in enumerate(wanted):
        left = number - sum([turn * column[place] for turn, column in zip(turns, columns)])
        if place in found:
            step = columns[len(turns)][place]
            if left % step != 0:
                return (turns, place, step)
            turns.append(left // step)
        elif left != 0:
            return (turns, place, 2 * left)
    return (turns, None, None)


def whole_solution(rows, wanted, many):
    """Whole numbers that fulfil a system, or None."""
    columns, made, found = slanted(rows, many)
    turns, failing, _ = turns_for(columns, found, wanted)
    if failing is not None:
        return None
    return [sum([turn * share[at] for turn, share in zip(turns, made)]) for at in range(many)]


def whole_refusal(rows, wanted, many):
    """Fractions that prove that no whole numbers fulfil a system, or None.

    With them as factors of the rows all columns sum up to whole numbers, and what is wanted does not.
    """
    columns, _, found = slanted(rows, many)
    turns, failing, by = turns_for(columns, found, wanted)
    if failing is None:
        return None
    # By a step that does not divide what is left, or by twice what is left, what is wanted is no whole number.
    return proof(columns, found[:len(turns)], failing, len(wanted), by)


def proof(columns, found, place, many, under):
    """The factors, 1 by `under` at a place, with which each column of the steps ahead sums up to 0."""
    factors = [(0, 1)] * many
    factors[place] = fraction(1, under)
    for at in reversed(range(len(found))):
        known = (0, 1)
        for row in found[at + 1:] + [place]:
            known = plus(known, times(factors[row], (columns[at][row], 1)))
        factors[found[at]] = divided(known, (-columns[at][found[at]], 1))
    return factors
