"""Guessers: what they leave of rows, and what they do for all rows."""

from math import comb

from wholesound.arguments import check_depth, check_within, is_numbers, is_within
from wholesound.errors import InvalidGuesser, InvalidItem, InvalidList, InvalidRow
from wholesound.samples import depth_of, greatest_sample, is_samples, least_sample, wrapped

MOST_WEIGHTS = 8
GREATEST_WEIGHT = 32768
GREATEST_SHIFT = 15
GREATEST_DEPTH = 32


class Guesser:
    """Weights, the first one for the nearest sample, and how often their sum is halved."""

    def __init__(self, weights, shift):
        if not isinstance(weights, list) or len(weights) > MOST_WEIGHTS:
            raise InvalidList(weights)
        for weight in weights:
            if not is_within(weight, -GREATEST_WEIGHT, GREATEST_WEIGHT):
                raise InvalidItem(weight)
        check_within(shift, 0, GREATEST_SHIFT)
        self._weights = list(weights)
        self._shift = shift

    def weights(self):
        """The weights, the one for the nearest sample first."""
        return list(self._weights)

    def shift(self):
        """How often the sum is halved."""
        return self._shift

    def order(self):
        """How many weights there are."""
        return len(self._weights)

    def __eq__(self, other):
        return isinstance(other, Guesser) and self._weights == other._weights and self._shift == other._shift


def check_guesser(guesser):
    """Refuse what is no guesser."""
    if not isinstance(guesser, Guesser):
        raise InvalidGuesser(guesser)


def check_whole_guesser(guesser):
    """Refuse what is no guesser of shift 0."""
    if not isinstance(guesser, Guesser) or guesser.shift() != 0:
        raise InvalidGuesser(guesser)


def check_samples(row, depth):
    """Refuse what is no list of samples of a depth."""
    if not is_samples(row, depth):
        raise InvalidRow(row)


def weighed(weights, row, at):
    """The sum of each weight times its sample, counted back from the place `at`."""
    total = 0
    for ahead, weight in enumerate(weights):
        total += weight * row[at - 1 - ahead]
    return total


def guess(guesser, before):
    """The guess behind a list of at least as many whole numbers as there are weights."""
    check_guesser(guesser)
    if not is_numbers(before) or len(before) < guesser.order():
        raise InvalidRow(before)
    return weighed(guesser.weights(), before, len(before)) >> guesser.shift()


def steps(order):
    """The guesser by which so many times the differences of neighbours are taken."""
    check_within(order, 0, MOST_WEIGHTS)
    return Guesser([comb(order, at) if at & 1 else -comb(order, at) for at in range(1, order + 1)], 0)


def unwrapped_rests(guesser, row):
    """The firsts of a row, and each further sample less its guess."""
    weights, shift, order = guesser.weights(), guesser.shift(), guesser.order()
    behind = [row[at] - (weighed(weights, row, at) >> shift) for at in range(order, len(row))]
    return row[:order] + behind


def rests(guesser, depth, row):
    """The firsts of a row of samples, and each further one less its guess, wrapped to the depth."""
    check_guesser(guesser)
    check_depth(depth, GREATEST_DEPTH)
    check_samples(row, depth)
    return [wrapped(rest, depth) for rest in unwrapped_rests(guesser, row)]


def row_of(guesser, depth, rests):
    """The row of samples that has these rests."""
    check_guesser(guesser)
    check_depth(depth, GREATEST_DEPTH)
    check_samples(rests, depth)
    weights, shift, order = guesser.weights(), guesser.shift(), guesser.order()
    row = rests[:order]
    for at in range(order, len(rests)):
        row.append(wrapped(rests[at] + (weighed(weights, row, at) >> shift), depth))
    return row


def plain_rests(guesser, row):
    """The firsts of a row of whole numbers, and each further one less its guess."""
    check_guesser(guesser)
    if not is_numbers(row):
        raise InvalidRow(row)
    return unwrapped_rests(guesser, row)


def weight_at(guesser, at):
    """The weight at a place, 0 where there is none."""
    weights = guesser.weights()
    return weights[at] if at < len(weights) else 0


def same_guess(one, other):
    """Whether two guessers guess alike behind all lists that are long enough for both."""
    check_guesser(one)
    check_guesser(other)
    return unlike_places(one, other) == []


def unlike_places(one, other):
    """The places at which the quotients of weight by 2 to the power of the shift are unlike."""
    order = max([one.order(), other.order()])
    return [at for at in range(order) if weight_at(one, at) << other.shift() != weight_at(other, at) << one.shift()]


def normal(guesser):
    """The guesser that guesses alike with the fewest weights and the least shift."""
    check_guesser(guesser)
    weights, shift = guesser.weights(), guesser.shift()
    while weights and weights[-1] == 0:
        weights.pop()
    while shift and all([weight & 1 == 0 for weight in weights]):
        weights = [weight // 2 for weight in weights]
        shift -= 1
    return Guesser(weights, shift)


def parting_row(one, other):
    """The least list, all 0 but one, behind which two guessers guess unlike, or None."""
    check_guesser(one)
    check_guesser(other)
    places = unlike_places(one, other)
    if places == []:
        return None
    size, found = 0, None
    # Unlike quotients have an `under` of at most 2 ** 15, which parts them: so this comes to an end.
    while found is None:
        size += 1
        found = parting_number(one, other, places, size)
    at, number = found
    row = [0] * max([one.order(), other.order()])
    row[len(row) - 1 - at] = number
    return row


def parting_number(one, other, places, size):
    """The first of the places, and the number of this absolute value, that part two guessers, or None."""
    for at in places:
        left, right = weight_at(one, at), weight_at(other, at)
        for number in (size, -size):
            if left * number >> one.shift() != right * number >> other.shift():
                return (at, number)
    return None


def bounds(guesser, depth):
    """The least and the greatest plain rest behind the firsts over all rows of samples of a depth."""
    least_row, greatest_row = bound_rows(guesser, depth)
    return (unwrapped_rests(guesser, least_row)[-1], unwrapped_rests(guesser, greatest_row)[-1])


def bound_rows(guesser, depth):
    """Two rows of samples whose last plain rests are the least and the greatest of all."""
    check_guesser(guesser)
    check_depth(depth, GREATEST_DEPTH)
    low, high = least_sample(depth), greatest_sample(depth)
    backwards = guesser.weights()[::-1]
    # The guess is taken off: so what makes it great makes the rest small.
    least_row = [high if weight > 0 else low for weight in backwards] + [low]
    greatest_row = [low if weight > 0 else high for weight in backwards] + [high]
    return (least_row, greatest_row)


def bits_enough(guesser, depth):
    """The least depth of which all plain rests behind the firsts are samples."""
    least, greatest = bounds(guesser, depth)
    return depth_of(least, greatest)


def leaving(weights):
    """What a rule of these weights leaves, as factors of the sample itself and of those ahead of it."""
    return [1] + [-weight for weight in weights]


def left_by_both(factors, others):
    """The factors of what is left by one rule of what another one leaves."""
    product = [0] * (len(factors) + len(others) - 1)
    for at, factor in enumerate(factors):
        for ahead, second in enumerate(others):
            product[at + ahead] += factor * second
    return product


def after(one, other):
    """The weights by which the same is left as by `one` and then, of these plain rests, by `other`."""
    check_whole_guesser(one)
    check_whole_guesser(other)
    product = left_by_both(leaving(one.weights()), leaving(other.weights()))
    return [-factor for factor in product[1:]]


def leads_to(one, other):
    """The weights of the third rule by which `one` leads to `other`, or None."""
    check_whole_guesser(one)
    check_whole_guesser(other)
    more = other.order() - one.order()
    if more < 0:
        return None
    first, wanted = leaving(one.weights()), leaving(other.weights())
    third = []
    for at in range(more + 1):
        known = sum([first[at - ahead] * third[ahead] for ahead in range(at) if at - ahead < len(first)])
        third.append(wanted[at] - known)
    if left_by_both(first, third) != wanted:
        return None
    return [-factor for factor in third[1:]]


def same_rests(one, other, depth):
    """Whether two guessers of shift 0 have the same rests of all rows of a depth."""
    return parting_rests(one, other, depth) is None


def parting_rests(one, other, depth):
    """A row of a depth of which two guessers of shift 0 have not the same rests, or None."""
    check_whole_guesser(one)
    check_whole_guesser(other)
    check_depth(depth, GREATEST_DEPTH)
    for order in (one.order(), other.order()):
        for place in range(order):
            row = [0] * (order + 1)
            # All depths have this sample, and it leads each weight back from its multiples.
            row[place] = -1
            if rests(one, depth, row) != rests(other, depth, row):
                return row
    return None


def tells(guesser, row):
    """Whether all plain rests of a row behind its firsts are 0."""
    left = plain_rests(guesser, row)
    return not any([rest != 0 for rest in left[guesser.order():]])


def hangs(guesser, depth, row, place):
    """The places whose plain rest or first is another one for some other sample at a place."""
    check_guesser(guesser)
    check_depth(depth, GREATEST_DEPTH)
    check_samples(row, depth)
    check_within(place, 0, len(row) - 1)
    last = min([place + guesser.order(), len(row) - 1])
    behind = range(max([place + 1, guesser.order()]), last + 1)
    return [place] + [at for at in behind if moves(guesser, depth, row, place, at)]


def moves(guesser, depth, row, place, at):
    """Whether some other sample at a place ahead makes the guess at `at` another one."""
    weights, shift = guesser.weights(), guesser.shift()
    told = weighed(weights, row, at)
    weight = weights[at - place - 1]
    # The guess only grows or only falls with the sample: so the outermost ones decide.
    ends = [told + weight * (end - row[place]) for end in (least_sample(depth), greatest_sample(depth))]
    return any([end >> shift != told >> shift for end in ends])
