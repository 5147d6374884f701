"""Lost and turned bits led back by checks, how many damages a check never sees, and two checks at once."""

from math import comb

from wholesound.arguments import check_bits, check_count, check_within, is_count
from wholesound.bitrows import bits_of
from wholesound.checks import Check, GREATEST_PLACE, GREATEST_WIDTH, check_check, check_places, check_rest, first_powers
from wholesound.checks import is_places, order_of, powers_at, rest_of, rest_of_places, sum_of
from wholesound.errors import InvalidBits, InvalidCheck, InvalidNumber, InvalidPlaces
from wholesound.overtwo import common, divided, inverse_by, product, rest_by
from wholesound.quotients import fraction

MOST_LOST = 64
MOST_MENDED = 2
GREATEST_COUNTED = 10
MOST_FEW = 8
MOST_CHANCES = 60
GREATEST_CHANCE = 1000


def check_lost(places):
    """Refuse what are no places, or too many."""
    check_places(places)
    if len(places) > MOST_LOST:
        raise InvalidPlaces(places)


def parity(number):
    """Whether a count has an odd number of ones: 1 or 0."""
    return bits_of(number, number.bit_length()).count("1") & 1


def left_over(number, marks, basis):
    """What is left of a rest and its marks once the rests of a basis are taken off by their highest ones."""
    for highest, one, own in basis:
        if number >> highest & 1:
            number ^= one
            marks ^= own
    return (number, marks)


def with_next(number, marks, basis):
    """The basis with one more rest, each highest one of a rest being in it alone."""
    highest = number.bit_length() - 1
    cleared = []
    for high, one, own in basis:
        if one >> highest & 1:
            one, own = one ^ number, own ^ marks
        cleared.append((high, one, own))
    return cleared + [(highest, number, marks)]


def can_fill(check, places):
    """Masks that tell the bits lost at places, or some of the places that are unseen."""
    check_check(check)
    check_lost(places)
    basis = []
    for at, number in enumerate(powers_at(check, places)):
        left, marks = left_over(number, 1 << at, basis)
        if left == 0:
            return ("no", [place for own, place in enumerate(places) if marks >> own & 1])
        basis = with_next(left, marks, basis)
    return ("yes", [mask_for(at, basis) for at in range(len(places))])


def mask_for(at, basis):
    """The mask of the lost bit with a number."""
    # The marks of a rest tell of which powers it is the sum; its highest one asks for just these.
    return sum([1 << highest for highest, _, marks in basis if marks >> at & 1])


def is_fill(check, places, value):
    """Whether a value is masks that tell lost bits, or places among the lost ones that are unseen."""
    check_check(check)
    check_lost(places)
    if not isinstance(value, tuple) or len(value) != 2:
        return False
    if value[0] == "yes":
        return is_masks(check, places, value[1])
    return value[0] == "no" and is_hidden(check, places, value[1])


def is_masks(check, places, value):
    """Whether a value is a list of a mask for each place, odd there and even at all other places."""
    if not isinstance(value, list) or len(value) != len(places):
        return False
    if not all([is_count(mask) and mask >> check.width == 0 for mask in value]):
        return False
    powers = powers_at(check, places)
    for at, mask in enumerate(value):
        if any([parity(mask & number) != (1 if own == at else 0) for own, number in enumerate(powers)]):
            return False
    return True


def is_hidden(check, places, value):
    """Whether a value is an ascending list of at least one of the places that are unseen."""
    if not is_places(value) or value == [] or any([place not in places for place in value]):
        return False
    return rest_of_places(check, value) == 0


def check_lossy(bits):
    """Refuse what is no string of bits and signs of lost ones."""
    if not isinstance(bits, str) or any([sign not in ("0", "1", "?") for sign in bits]):
        raise InvalidBits(bits)


def free_and_bound(check, bits):
    """The lost places that are free, the highest first, the basis of the other ones, and these places.

    A lost bit is bound if those behind it cannot make up for it: so rows stand in the order of the free ones.
    """
    free, bound, basis = [], [], []
    for place, number in enumerate(first_powers(check, len(bits))):
        if bits[len(bits) - 1 - place] == "?":
            left, marks = left_over(number, 1 << len(bound), basis)
            if left == 0:
                free.append(place)
            else:
                basis = with_next(left, marks, basis)
                bound.append(place)
    return (free[::-1], basis, bound)


def filled_with_noughts(bits):
    """The bits with a nought for each lost one."""
    return bits.replace("?", "0")


def rows_filled(check, bits, free, basis):
    """In how many ways the row can be made right."""
    left, _ = left_over(rest_of(check, filled_with_noughts(bits)), 0, basis)
    return 1 << len(free) if left == 0 else 0


def how_many_filled(check, bits):
    """In how many ways the lost bits can be replaced so that the row is right."""
    check_check(check)
    check_lossy(bits)
    free, basis, _ = free_and_bound(check, bits)
    return rows_filled(check, bits, free, basis)


def filled_at(check, bits, number):
    """The right row with a number, of those made by replacing the lost bits."""
    check_check(check)
    check_lossy(bits)
    check_count(number)
    free, basis, bound = free_and_bound(check, bits)
    if number >= rows_filled(check, bits, free, basis):
        raise InvalidNumber(number)
    chosen = bits_of(number, len(free))
    ones = {place: True for place, sign in zip(free, chosen) if sign == "1"}
    row = with_ones(bits, ones)
    _, marks = left_over(rest_of(check, filled_with_noughts(row)), 0, basis)
    return filled_with_noughts(with_ones(row, {place: True for at, place in enumerate(bound) if marks >> at & 1}))


def with_ones(bits, ones):
    """The bits with a one at some lost places, counted from the end."""
    last = len(bits) - 1
    return "".join(["1" if last - at in ones else sign for at, sign in enumerate(bits)])


def mends(check, bits, most):
    """All lists of at most so many places of a row behind whose turning it is right."""
    check_check(check)
    check_bits(bits)
    check_within(most, 0, MOST_MENDED)
    left = rest_of(check, bits)
    powers = first_powers(check, len(bits))
    found = [[]] if left == 0 else []
    if most > 0:
        found += [[place] for place, number in enumerate(powers) if number == left]
    return found + pairs_with(powers, left) if most > 1 else found


def pairs_with(powers, wanted):
    """All ascending pairs of places whose powers have this sum, in order."""
    places = {}
    for place, number in enumerate(powers):
        places.setdefault(number, []).append(place)
    found = []
    for place, number in enumerate(powers):
        found += [[place, other] for other in places.get(number ^ wanted, []) if other > place]
    return found


def check_narrow(check):
    """Refuse what is no check, or one that is too wide to be counted."""
    if not isinstance(check, Check) or check.width > GREATEST_COUNTED:
        raise InvalidCheck(check)


def places_by_rest(check, many):
    """For each rest how many places below a number have it as their power."""
    order = order_of(check)
    counts = [0] * (1 << check.width)
    for place, number in enumerate(first_powers(check, order)):
        counts[number] = (many - place + order - 1) // order if place < many else 0
    return counts


def odd_places(check, many):
    """For each mask of bits of rests at how many places below a number it has an odd number of ones in common."""
    sums = places_by_rest(check, many)
    for bit in range(check.width):
        worth = 1 << bit
        # Behind this turn the sums of rests are told apart by the sign that this bit of the mask gives them.
        sums = [sums[at ^ worth] - sums[at] if at & worth else sums[at] + sums[at ^ worth] for at in range(len(sums))]
    return [(many - total) // 2 for total in sums]


def signed_choices(odd, even, few):
    """How many lists of so many places have an even number of odd ones, less how many have not."""
    total = 0
    for taken in range(few + 1):
        lists = comb(odd, taken) * comb(even, few - taken)
        total = total - lists if taken & 1 else total + lists
    return total


def how_many_unseen(check, many, few):
    """How many lists of just so many places below a number are unseen."""
    check_narrow(check)
    check_within(many, 0, GREATEST_PLACE)
    check_within(few, 0, MOST_FEW)
    return sum([signed_choices(odd, many - odd, few) for odd in odd_places(check, many)]) >> check.width


def first_products(number, most):
    """A number to the powers from 0 to `most`."""
    found = [1]
    for _ in range(most):
        found.append(found[-1] * number)
    return found


def chance(check, many, top, under):
    """The chance that some bits of a row are turned and unseen if each is turned with the chance `top / under`."""
    check_narrow(check)
    check_within(many, 0, MOST_CHANCES)
    check_within(top, 0, GREATEST_CHANCE)
    check_within(under, max([1, top]), GREATEST_CHANCE)
    turned, kept = first_products(under - 2 * top, many), first_products(under, many)
    unseen = sum([turned[odd] * kept[many - odd] for odd in odd_places(check, many)])
    none = first_products(under - top, many)[many]
    return fraction(unseen - (none << check.width), kept[many] << check.width)


def check_checks(one, other):
    """Refuse what are no two checks."""
    check_check(one)
    check_check(other)


def leads(one, other):
    """Whether every row that is right by one check is right by another one."""
    return rest_by(sum_of(one), sum_of(other)) == 0


def also_right(one, other):
    """Whether every row that is right by one check is right by another one."""
    check_checks(one, other)
    return leads(one, other)


def parted_bits(one, other):
    """The first of the shortest rows that are right by the first check alone, or None."""
    check_checks(one, other)
    # No row of noughts alone parts them, and no shorter one is right.
    return None if leads(one, other) else one.bits()


def check_with(total):
    """The check with a sum, None if no check has it."""
    width = total.bit_length() - 1
    return Check(width, total ^ 1 << width) if 1 <= width <= GREATEST_WIDTH else None


def shared_sum(one, other):
    """The greatest sum that divides those of two checks."""
    return common(sum_of(one), sum_of(other))


def together(one, other):
    """The check by which just the rows are right that are right by both, None if it is too wide."""
    check_checks(one, other)
    return check_with(product(sum_of(one), divided(sum_of(other), shared_sum(one, other))[0]))


def shared(one, other):
    """The widest check by which all rows are right that are right by one of both, or None."""
    check_checks(one, other)
    return check_with(shared_sum(one, other))


def bits_with(one, other, left, right):
    """The row of as many bits as can be told apart that has these rests by both checks, or None."""
    check_checks(one, other)
    check_rest(left, one)
    check_rest(right, other)
    both = shared_sum(one, other)
    times, over = divided(left ^ right, both)
    if over:
        return None
    own, its = divided(sum_of(one), both)[0], divided(sum_of(other), both)[0]
    # The first sum so many times changes the first rest not, and brings the second one to what is told.
    more = rest_by(product(times, inverse_by(own, its)), its)
    return bits_of(left ^ product(more, sum_of(one)), one.width + other.width - both.bit_length() + 1)
