"""The best guesser of one weight for a row, and the places that prove that none is better."""

from itertools import combinations

from wholesound.arguments import is_numbers, is_within
from wholesound.errors import InvalidRow
from wholesound.guessers import GREATEST_SHIFT, GREATEST_WEIGHT, Guesser, plain_rests


def best_weight(row):
    """The least bound of the plain rests by one weight, a guesser that keeps it, and places that prove it."""
    check_row(row)
    places = list(range(1, len(row)))
    # A weight of 0 leaves the numbers themselves.
    low, high = 0, max([abs(number) for number in row], default=0)
    while low < high:
        middle = (low + high) // 2
        if keeping(row, places, middle) is None:
            low = middle + 1
        else:
            high = middle
    return (low, keeping(row, places, low), None if low == 0 else proving_places(row, low))


def is_best_weight(row, value):
    """Whether a value is the least bound, such a guesser, and such places."""
    check_row(row)
    if not isinstance(value, tuple) or len(value) != 3:
        return False
    bound, guesser, places = value
    if not is_within(bound, 0, max([abs(number) for number in row], default=0)):
        return False
    if not isinstance(guesser, Guesser) or guesser.order() != 1:
        return False
    if any([abs(rest) > bound for rest in plain_rests(guesser, row)[1:]]):
        return False
    if bound == 0:
        return places is None
    return are_places(row, places) and keeping(row, places, bound - 1) is None


def check_row(row):
    """Refuse what is no list of whole numbers."""
    if not is_numbers(row):
        raise InvalidRow(row)


def are_places(row, places):
    """Whether a value is an ascending list of one or two places of a row, from 1 on."""
    if not is_numbers(places) or not 1 <= len(places) <= 2:
        return False
    return 1 <= places[0] and places[-1] < len(row) and (len(places) == 1 or places[0] < places[1])


def keeping(row, places, bound):
    """A guesser of one weight whose plain rests at the places are from -bound to bound, or None."""
    for shift in range(GREATEST_SHIFT + 1):
        low, high = -GREATEST_WEIGHT, GREATEST_WEIGHT
        for place in places:
            least, greatest = weight_range(row[place - 1], row[place], bound, shift)
            low, high = max([low, least]), min([high, greatest])
        if low <= high:
            return Guesser([low], shift)
    return None


def weight_range(ahead, number, bound, shift):
    """The least and the greatest weight that leave a number at most the bound, both within the bounds."""
    # The guess rounded down is from number - bound to number + bound: so is the weight times the sample here.
    low, high = (number - bound) << shift, ((number + bound + 1) << shift) - 1
    if ahead == 0:
        return (-GREATEST_WEIGHT, GREATEST_WEIGHT) if low <= 0 <= high else (1, 0)
    if ahead < 0:
        low, high = -high, -low
    return (-(-low // abs(ahead)), high // abs(ahead))


def proving_places(row, bound):
    """One or two places at which every guesser of one weight leaves at least the bound."""
    # What one place lets is a stretch of the weights in order, and stretches that meet by twos meet all.
    places = list(range(1, len(row)))
    for place in places:
        if keeping(row, [place], bound - 1) is None:
            return [place]
    for one, other in combinations(places, 2):
        if keeping(row, [one, other], bound - 1) is None:
            return [one, other]
    return None
