"""Rows that go on for ever by a rule, the rules that rows follow, and what these tell behind them."""

from wholesound.arguments import check_depth, check_within, is_numbers, is_within
from wholesound.binaries import inverse, lowest, noughts, noughts_power, refusal, solution
from wholesound.errors import InvalidRow, InvalidWeights
from wholesound.quotients import is_fraction, weighed_up
from wholesound.recurrences import number_on, period_of, row_from, shares_on
from wholesound.samples import is_samples, is_samples_of, wrapped, wrapped_row
from wholesound.wholes import whole_refusal, whole_solution

GREATEST_DEPTH = 24
MOST_WEIGHTS = 8
GREATEST_WEIGHT = 32768
FARTHEST = 1000000000000000000


def check_rule(weights):
    """Refuse what is no rule."""
    if not is_numbers(weights) or len(weights) > MOST_WEIGHTS:
        raise InvalidWeights(weights)
    if any([abs(weight) > GREATEST_WEIGHT for weight in weights]):
        raise InvalidWeights(weights)


def check_row(depth, row):
    """Refuse what is no list of samples of a depth."""
    if not is_samples(row, depth):
        raise InvalidRow(row)


def check_begun(depth, weights, firsts):
    """Refuse what is no rule, and what are no firsts of it."""
    check_rule(weights)
    if not is_samples_of(firsts, depth, len(weights)):
        raise InvalidRow(firsts)


def follows(depth, weights, row):
    """Whether a row follows weights."""
    backwards = weights[::-1]
    for at in range(len(weights), len(row)):
        told = sum([weight * sample for weight, sample in zip(backwards, row[at - len(weights):at])])
        if wrapped(told, depth) != wrapped(row[at], depth):
            return False
    return True


def is_told(depth, weights, row):
    """Whether a row of samples follows weights that are any whole numbers."""
    check_depth(depth, GREATEST_DEPTH)
    if not is_numbers(weights):
        raise InvalidWeights(weights)
    check_row(depth, row)
    return follows(depth, weights, row)


def sample_at(depth, weights, firsts, number):
    """The sample at a place of the row from firsts."""
    check_depth(depth, GREATEST_DEPTH)
    check_begun(depth, weights, firsts)
    check_within(number, 0, FARTHEST)
    if weights == []:
        return 0
    return wrapped(number_on(depth, shares_on(depth, weights, number), firsts, 0), depth)


def unlike_at(depth, one, firsts, other, seconds, many):
    """The places, of the first so many, at which two rows from firsts are unlike."""
    row, second = row_from(depth, one, firsts, many), row_from(depth, other, seconds, many)
    return [at for at in range(many) if row[at] != second[at]]


def first_parted(depth, one, firsts, other, seconds):
    """The least place at which two rows from firsts are unlike, or None."""
    check_depth(depth, GREATEST_DEPTH)
    check_begun(depth, one, firsts)
    check_begun(depth, other, seconds)
    # The difference follows the one rule behind the other: so as many noughts go on for ever.
    unlike = unlike_at(depth, one, firsts, other, seconds, len(one) + len(other))
    return unlike[0] if unlike else None


def alike_from(depth, one, firsts, other, seconds):
    """The least place from which on two rows from firsts are alike at all places, or None."""
    check_depth(depth, GREATEST_DEPTH)
    check_begun(depth, one, firsts)
    check_begun(depth, other, seconds)
    # Chains of ever smaller sets of neighbours are no longer: what is not 0 behind them never will be.
    order = len(one) + len(other)
    unlike = unlike_at(depth, one, firsts, other, seconds, order * depth + order)
    if unlike == []:
        return 0
    return None if unlike[-1] >= order * depth else unlike[-1] + 1


def period(depth, weights, firsts):
    """The least length after which the row from firsts is like itself, and the least place from which on."""
    check_depth(depth, GREATEST_DEPTH)
    check_begun(depth, weights, firsts)
    return period_of(depth, weights, firsts)


def unit_firsts(weights):
    """Firsts that are all 0 but the last: all rows are sums of what stands behind them, times numbers."""
    return [0] * (len(weights) - 1) + [-1] if weights else []


def longest_period(depth, weights):
    """The least head and length that the rows from all firsts have at most, or as a divisor."""
    check_depth(depth, GREATEST_DEPTH)
    check_rule(weights)
    return period_of(depth, weights, unit_firsts(weights))


def returning(depth, weights, number):
    """From how many firsts the row is at all its places like itself so many places on."""
    check_depth(depth, GREATEST_DEPTH)
    check_rule(weights)
    check_within(number, 1, FARTHEST)
    if weights == []:
        return 1
    order = len(weights)
    rows = [shares_on(depth, weights, number + at) for at in range(order)]
    less = [[share - (1 if at == place else 0) for at, share in enumerate(row)] for place, row in enumerate(rows)]
    return 1 << noughts_power(less, order, depth)


def leads_all(depth, one, other):
    """None if every row that follows the rule `one` follows `other`, or firsts and the first place that do not."""
    check_depth(depth, GREATEST_DEPTH)
    check_rule(one)
    check_rule(other)
    firsts = unit_firsts(one)
    row = row_from(depth, one, firsts, len(one) + len(other))
    # What `other` misses follows `one`, too: so as many noughts go on for ever.
    for place in range(len(other), len(row)):
        if not follows(depth, other, row[place - len(other):place + 1]):
            return (firsts, place)
    return None


def system_of(row, many):
    """The samples ahead of each place from `many` on, the nearest first, and the samples at these places."""
    places = range(many, len(row))
    return ([[row[at - ahead] for ahead in range(1, many + 1)] for at in places], row[many:])


def rule_of(depth, row, many):
    """So many weights, samples of the depth, that a row follows, or None."""
    rows, wanted = system_of(row, many)
    weights = solution(rows, wanted, many, depth)
    return None if weights is None else wrapped_row(weights, depth)


def shortest(depth, row):
    """The least number of weights that a row follows, such weights, and a paper against fewer."""
    check_depth(depth, GREATEST_DEPTH)
    check_row(depth, row)
    low, high = 0, len(row)
    while low < high:
        middle = (low + high) // 2
        if rule_of(depth, row, middle) is None:
            low = middle + 1
        else:
            high = middle
    if low == 0:
        return (0, [], None)
    rows, wanted = system_of(row, low - 1)
    return (low, rule_of(depth, row, low), wrapped_row(refusal(rows, wanted, low - 1, depth), depth))


def is_shortest(depth, row, value):
    """Whether a value is the least number of weights, such weights, and a paper against fewer."""
    check_depth(depth, GREATEST_DEPTH)
    check_row(depth, row)
    if not is_triple(value) or not is_within(value[0], 0, len(row)):
        return False
    many, weights, paper = value
    if not is_samples_of(weights, depth, many) or not follows(depth, weights, row):
        return False
    if many == 0:
        return paper is None
    if not is_samples_of(paper, depth, len(row) - many + 1):
        return False
    sums = weighed_columns(row, many - 1, paper)
    return all_agree(sums[1:], depth) and not all_agree(sums[:1], depth)


def is_triple(value):
    """Whether a value is a tuple of three."""
    return isinstance(value, tuple) and len(value) == 3


def weighed_columns(row, many, shares):
    """The sums of shares, one for each place from `many` on, times the sample j places ahead, from j = 0 on."""
    return [sum([share * row[many + at - ahead] for at, share in enumerate(shares)]) for ahead in range(many + 1)]


def all_agree(numbers, depth):
    """Whether all numbers agree with 0 by 2 to the power of the depth."""
    return all([wrapped(number, depth) == 0 for number in numbers])


def check_many(depth, row, many):
    """Refuse what is no depth, no row, or no number of weights for it."""
    check_depth(depth, GREATEST_DEPTH)
    check_row(depth, row)
    check_within(many, 0, len(row))


def how_many_rules(depth, row, many):
    """How many rules of so many weights a row follows."""
    check_many(depth, row, many)
    rows, wanted = system_of(row, many)
    if solution(rows, wanted, many, depth) is None:
        return 0
    return 1 << noughts_power(rows, many, depth)


def next_samples(depth, row, many):
    """The number and the power by which the samples agree that all rules tell behind a row, or None."""
    paper = next_paper(depth, row, many)
    return None if paper is None else paper[:2]


def ahead_of_end(row, many):
    """So many samples ahead of the end of a row, the nearest first."""
    return row[len(row) - many:][::-1]


def next_paper(depth, row, many):
    """What the rules tell behind a row, and what proves it, or None."""
    check_many(depth, row, many)
    weights = rule_of(depth, row, many)
    if weights is None:
        return None
    rows, wanted = system_of(row, many)
    end = ahead_of_end(row, many)
    power, mover = least_mover(rows, end, many, depth)
    number = sum([weight * sample for weight, sample in zip(weights, end)]) & ((1 << power) - 1)
    columns = [[share[at] for share in rows] for at in range(many)]
    shares = solution(columns, [sample << (depth - power) for sample in end], len(rows), depth)
    return (number, power, weights, wrapped_row(shares, depth), mover)


def least_mover(rows, end, many, depth):
    """The least power by which rules change what they tell, and what, added to one, changes it so."""
    power, mover = depth, None
    below = (1 << depth) - 1
    for numbers in noughts(rows, many, depth):
        by = sum([number * sample for number, sample in zip(numbers, end)]) & below
        if by and lowest(by) < power:
            power = lowest(by)
            turn = inverse(by >> power, depth)
            mover = wrapped_row([turn * number for number in numbers], depth)
    return (power, mover)


def is_next_paper(depth, row, many, value):
    """Whether a value is what the rules tell behind a row, and what proves it."""
    check_many(depth, row, many)
    if not isinstance(value, tuple) or len(value) != 5:
        return False
    number, power, weights, shares, mover = value
    if not is_within(power, 0, depth) or not is_within(number, 0, (1 << power) - 1):
        return False
    if not is_samples_of(weights, depth, many) or not follows(depth, weights, row):
        return False
    if not is_samples_of(shares, depth, len(row) - many):
        return False
    told = [number] + ahead_of_end(row, many)
    sums = weighed_columns(row, many, shares)
    if not all_agree([got - (one << (depth - power)) for got, one in zip(sums, told)], depth):
        return False
    if power == depth:
        return mover is None
    return is_samples_of(mover, depth, many) and moves_by(depth, row, mover, power)


def moves_by(depth, row, mover, power):
    """Whether a mover changes no sample of a row, and the one behind it by 2 to a power."""
    many = len(mover)
    rows, _ = system_of(row + [0], many)
    sums = [sum([one * sample for one, sample in zip(mover, ahead)]) for ahead in rows]
    return all_agree(sums[:-1] + [sums[-1] - (1 << power)], depth)


def check_numbers(row):
    """Refuse what is no list of whole numbers."""
    if not is_numbers(row):
        raise InvalidRow(row)


def shortest_whole(row):
    """The least number of whole weights by which each number of a row is the sum, such weights, and a paper."""
    check_numbers(row)
    many = 0
    rows, wanted = system_of(row, many)
    weights, paper = whole_solution(rows, wanted, many), None
    while weights is None:
        paper = whole_refusal(rows, wanted, many)
        many += 1
        rows, wanted = system_of(row, many)
        weights = whole_solution(rows, wanted, many)
    return (many, weights, paper)


def is_shortest_whole(row, value):
    """Whether a value is the least number of whole weights, such weights, and a paper against fewer."""
    check_numbers(row)
    if not is_triple(value) or not is_within(value[0], 0, len(row)):
        return False
    many, weights, paper = value
    if not is_numbers(weights) or len(weights) != many or not sums_up(weights, row):
        return False
    if many == 0:
        return paper is None
    if not isinstance(paper, list) or len(paper) != len(row) - many + 1:
        return False
    if not all([is_fraction(share) for share in paper]):
        return False
    columns = [[row[at - ahead] for at in range(many - 1, len(row))] for ahead in range(many)]
    unders = [weighed_up(paper, column)[1] for column in columns]
    return unders[0] != 1 and all([under == 1 for under in unders[1:]])


def sums_up(weights, row):
    """Whether each number of a row with so many ahead is the sum of the weights times these."""
    rows, wanted = system_of(row, len(weights))
    told = [sum([weight * number for weight, number in zip(weights, ahead)]) for ahead in rows]
    return told == wanted
