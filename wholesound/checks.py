"""Check words: rests of rows of bits read as sums over two, and which turned bits they never see.

A check's sum is told by one number, its `low` and the highest power: so are rests, and rows where they
are short. Places are counted from the end of a row.
"""

from wholesound.arguments import check_bits, check_count, check_within, is_number, is_within
from wholesound.bitrows import bits_of
from wholesound.errors import InvalidCheck, InvalidNumber, InvalidPlaces
from wholesound.overtwo import product, raised, rest_by

GREATEST_WIDTH = 16
GREATEST_PLACE = 1000000000000000000
GREATEST_SPAN = 1000


class Check:
    """A sum of powers of x: the highest one, and those below it."""

    def __init__(self, width, low):
        check_within(width, 1, GREATEST_WIDTH)
        if not is_within(low, 1, (1 << width) - 1) or low & 1 == 0:
            raise InvalidNumber(low)
        self._width = width
        self._low = low

    @property
    def width(self):
        """The highest power, and how many bits a word has."""
        return self._width

    @property
    def low(self):
        """The powers below the highest one, told as a number."""
        return self._low

    def bits(self):
        """The bits of the sum, the highest power first."""
        return "1" + bits_of(self._low, self._width)

    def __eq__(self, other):
        return isinstance(other, Check) and self._width == other._width and self._low == other._low


def check_check(check):
    """Refuse what is no check."""
    if not isinstance(check, Check):
        raise InvalidCheck(check)


def check_rest(number, check):
    """Refuse what is no rest by a check."""
    check_within(number, 0, (1 << check.width) - 1)


def is_places(value):
    """Whether a value is an ascending list of unlike places."""
    if not isinstance(value, list):
        return False
    last = -1
    for place in value:
        if not is_number(place) or not last < place <= GREATEST_PLACE:
            return False
        last = place
    return True


def check_places(places):
    """Refuse what are no places."""
    if not is_places(places):
        raise InvalidPlaces(places)


def sum_of(check):
    """The sum of a check, told as a number."""
    return 1 << check.width | check.low


def risen(number, check, many):
    """A rest times x, so many times."""
    whole, width = sum_of(check), check.width
    for _ in range(many):
        number <<= 1
        if number >> width:
            number ^= whole
    return number


def rest_of(check, bits):
    """The rest of a row of bits."""
    whole, width = sum_of(check), check.width
    number = 0
    for sign in bits:
        number = number << 1 | (1 if sign == "1" else 0)
        if number >> width:
            number ^= whole
    return number


def word_of(check, bits):
    """The rest of a row with as many noughts behind it as the check is wide."""
    return risen(rest_of(check, bits), check, check.width)


def rest(check, bits):
    """The rest of a row of bits, told as a number."""
    check_check(check)
    check_bits(bits)
    return rest_of(check, bits)


def word(check, bits):
    """The word of a row: its rest with as many noughts behind it as the check is wide."""
    check_check(check)
    check_bits(bits)
    return word_of(check, bits)


def sealed(check, bits):
    """A row with its word behind it."""
    check_check(check)
    check_bits(bits)
    return bits + bits_of(word_of(check, bits), check.width)


def is_right(check, bits):
    """Whether the rest of a row is 0."""
    check_check(check)
    check_bits(bits)
    return rest_of(check, bits) == 0


def power_at(check, place):
    """The rest of x to the power of a place."""
    return raised(2, sum_of(check), place)


def power(check, many):
    """The rest of x to the power of a number."""
    check_check(check)
    check_within(many, 0, GREATEST_PLACE)
    return power_at(check, many)


def joined_word(check, one, other, many):
    """The word of two rows one behind the other, out of their words and the number of bits of the second one."""
    check_check(check)
    check_rest(one, check)
    check_rest(other, check)
    check_within(many, 0, GREATEST_PLACE)
    return rest_by(product(one, power_at(check, many)), sum_of(check)) ^ other


def turned_word(check, one, places):
    """The word of a row behind the turning of bits, out of its word."""
    check_check(check)
    check_rest(one, check)
    check_places(places)
    return one ^ risen(rest_of_places(check, places), check, check.width)


def rest_of_places(check, places):
    """The rest of the sum of the powers at places."""
    total = 0
    for number in powers_at(check, places):
        total ^= number
    return total


def powers_at(check, places):
    """The rests of the powers at ascending places."""
    found, last, number = [], 0, 1
    for place in places:
        # From place to place there is often little to go, seldom far.
        if place - last <= check.width:
            number = risen(number, check, place - last)
        else:
            number = rest_by(product(number, power_at(check, place - last)), sum_of(check))
        found.append(number)
        last = place
    return found


def unseen(check, places):
    """Whether the turning of just the bits at places leaves each right row right."""
    check_check(check)
    check_places(places)
    return rest_of_places(check, places) == 0


def order_of(check):
    """The least number of at least 1 of times that x multiplied is 1."""
    number, many = risen(1, check, 1), 1
    whole, width = sum_of(check), check.width
    while number != 1:
        number <<= 1
        if number >> width:
            number ^= whole
        many += 1
    return many


def order(check):
    """The least distance of two places that are unseen."""
    check_check(check)
    return order_of(check)


def first_powers(check, many):
    """The rests of the first powers of x, so many."""
    found, number = [], 1
    whole, width = sum_of(check), check.width
    for _ in range(many):
        found.append(number)
        number <<= 1
        if number >> width:
            number ^= whole
    return found


def span_of_three(powers):
    """The least span of three unseen places with these powers, which are all unlike, or None."""
    seen = {}
    for place, number in enumerate(powers):
        # A list of the least span begins at 0.
        if number ^ 1 in seen:
            return place
        if place > 0:
            seen[number] = True
    return None


def span_of_four(powers):
    """The least span of four unseen places with these powers, which are all unlike, or None."""
    sums = {}
    for place, number in enumerate(powers):
        if number ^ 1 in sums:
            return place
        # There are fewer sums than rests: so this comes to an end long before many powers.
        for at in range(1, place):
            sums[number ^ powers[at]] = True
    return None


def distance(check, many):
    """How many places below a number the shortest list of unseen ones has, if 2, 3 or 4; otherwise None."""
    check_check(check)
    check_within(many, 0, GREATEST_PLACE)
    return distance_in(check, order_of(check), many)


def distance_in(check, order, many):
    """The distance below a number of a check of this order."""
    if order < many:
        return 2
    powers = first_powers(check, many)
    if span_of_three(powers) is not None:
        return 3
    return 4 if span_of_four(powers) is not None else None


def least_unseen(check, many):
    """The first of the shortest lists of unseen places below a number, or None if they are longer than 4."""
    check_check(check)
    check_within(many, 0, GREATEST_PLACE)
    order = order_of(check)
    few = distance_in(check, order, many)
    if few is None:
        return None
    if few == 2:
        return [0, order]
    powers = first_powers(check, many)
    places = {number: place for place, number in enumerate(powers)}
    return first_three(powers, places) if few == 3 else first_four(powers, places)


def first_three(powers, places):
    """The first three unseen places, of which there are some."""
    first = 1
    while places.get(powers[first] ^ 1, 0) <= first:
        first += 1
    return [0, first, places[powers[first] ^ 1]]


def first_four(powers, places):
    """The first four unseen places, or None."""
    for first in range(1, len(powers)):
        both = powers[first] ^ 1
        for second in range(first + 1, len(powers)):
            third = places.get(powers[second] ^ both, 0)
            if third > second:
                return [0, first, second, third]
    return None


def longest(check, few):
    """The greatest number below which no fewer places, but some at all, are unseen."""
    check_check(check)
    check_within(few, 3, 5)
    many = order_of(check)
    powers = first_powers(check, many)
    spans = [span_of_three(powers)] if few > 3 else []
    spans += [span_of_four(powers)] if few > 4 else []
    return min([many] + [span for span in spans if span is not None])


def all_odd(check):
    """Whether no odd number of places is unseen."""
    check_check(check)
    # Just the sums of an even number of powers are multiples of x + 1.
    return check.bits().count("1") & 1 == 0


def how_many_shapes(check, span):
    """How many lists of unseen places have the least place 0 and the greatest one `span`."""
    check_check(check)
    check_within(span, 0, GREATEST_SPAN)
    return shapes_of(check, span)


def shapes_of(check, span):
    """How many multiples of a check's sum have the highest power `span` and the lowest one 0."""
    if span <= check.width:
        return 1 if span == check.width else 0
    return 1 << (span - check.width - 1)


def shape_at(check, span, number):
    """The shape of a span with a number, in the order of the sums of 2 to the power of the places."""
    check_check(check)
    check_within(span, 0, GREATEST_SPAN)
    check_count(number)
    if number >= shapes_of(check, span):
        raise InvalidNumber(number)
    # The number tells the bits above the width but for the next one, which makes the lowest bit a one.
    total = 1 << span | number << (check.width + 1)
    left = rest_by(total, sum_of(check))
    if left & 1 == 0:
        total |= 1 << check.width
        left ^= check.low
    total |= left
    return [place for place in range(span + 1) if total >> place & 1]


def shape_number(check, places):
    """The number of a shape within its span."""
    check_check(check)
    if not is_shape(check, places):
        raise InvalidPlaces(places)
    above = [place - check.width - 1 for place in places[:-1] if place > check.width]
    return sum([1 << place for place in above])


def is_shape(check, value):
    """Whether a value is a shape of a span."""
    if not is_places(value) or value == [] or value[0] != 0 or value[-1] > GREATEST_SPAN:
        return False
    return rest_of_places(check, value) == 0
