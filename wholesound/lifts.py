"""The fewest lifts that make a matrix on two ways, and how often a mixer has to mix until all comes back."""

from wholesound.arguments import is_numbers
from wholesound.errors import InvalidMatrix, InvalidMixer
from wholesound.mixers import Mixer, whole_matrix

# A matrix of whole numbers on four ways that comes back does so after at most so many times.
MOST_TIMES = 12


def check_matrix(numbers):
    """Refuse what is no matrix of two rows of two whole numbers that can be undone."""
    if not isinstance(numbers, list) or len(numbers) != 2:
        raise InvalidMatrix(numbers)
    if not all([is_numbers(row) and len(row) == 2 for row in numbers]):
        raise InvalidMatrix(numbers)
    if numbers[0][0] * numbers[1][1] - numbers[0][1] * numbers[1][0] not in (1, -1):
        raise InvalidMatrix(numbers)


def fewest_lifts(numbers):
    """The least number of lifts in a mixer of which this is the matrix."""
    check_matrix(numbers)
    return how_many_lifts(fewest_steps(numbers))


def lifts_for(numbers):
    """A mixer of the fewest lifts, all of shift 0, of which this is the matrix."""
    check_matrix(numbers)
    return Mixer(2, fewest_steps(numbers))


def how_many_lifts(steps):
    """How many of the steps are lifts."""
    return len([step for step in steps if step[0] == "lift"])


def fewest_steps(numbers):
    """Steps of the fewest lifts that make a matrix."""
    best = None
    for rows_swapped in (False, True):
        for columns_swapped in (False, True):
            steps = steps_for(numbers, rows_swapped, columns_swapped)
            if best is None or how_many_lifts(steps) < how_many_lifts(best):
                best = steps
    return best


def steps_for(numbers, rows_swapped, columns_swapped):
    """Steps that make a matrix, found by leading it back to turns, perhaps with its rows or columns swapped.

    The first column is divided by itself with the nearest quotients. No other quotients, whatever their
    signs, end sooner; so one of the four ways to begin has the fewest.
    """
    swap = [("swap", 0, 1)]
    rows = numbers[::-1] if rows_swapped else numbers
    top, low = [row[::-1] if columns_swapped else row for row in rows]
    backwards = swap if rows_swapped else []
    while low[0] != 0:
        nearest = (2 * top[0] + low[0]) // (2 * low[0])
        backwards = backwards + lift_up(nearest) + swap
        top, low = low, [number - nearest * second for number, second in zip(top, low)]
    backwards = backwards + lift_up(top[1] * low[1])
    backwards = backwards + [("turn", at) for at, number in ((0, top[0]), (1, low[1])) if number < 0]
    return (backwards + (swap if columns_swapped else []))[::-1]


def lift_up(weight):
    """The lift of the second way onto the first one, in a list, empty if it does nothing."""
    return [("lift", 0, [0, weight], 0)] if weight else []


def comes_back(mixer):
    """The least number of times that a mixer of shift 0 has to mix until all lists are what they were, or None."""
    if not isinstance(mixer, Mixer) or any([step[0] == "lift" and step[3] > 0 for step in mixer.steps()]):
        raise InvalidMixer(mixer)
    wide, steps = mixer.wide(), mixer.steps()
    unmoved = whole_matrix([], wide)
    for times in range(1, MOST_TIMES + 1):
        if whole_matrix(steps * times, wide) == unmoved:
            return times
    return None
