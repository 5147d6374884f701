"""What mixers do over all lists, boxes and samples: by how much they round, whether two are alike, how far they reach.

All of it hangs on the rests of the numbers by 2 to the power of the halvings: lists that differ by
multiples of it come out just as far apart as the matrix tells.
"""

from wholesound.arguments import check_depth, is_number
from wholesound.errors import InvalidBoxes
from wholesound.mixers import GREATEST_DEPTH, check_mixer, check_mixers, halved, joined_mixers, run, whole_matrix
from wholesound.quotients import fraction
from wholesound.samples import depth_of, greatest_sample, least_sample


def lists_of(choices):
    """All lists with an item of each of the choices, in order."""
    lists = [[]]
    for items in choices:
        lists = [begun + [item] for begun in lists for item in items]
    return lists


def summed(row, numbers):
    """The sum of the factors of a row times the numbers."""
    return sum([factor * number for factor, number in zip(row, numbers)])


def misses(mixer):
    """For each way the least and the greatest that rounding adds to it over all lists, each with such a list."""
    check_mixer(mixer)
    steps, wide = mixer.steps(), mixer.wide()
    halvings = halved(steps)
    rows = whole_matrix(steps, wide)
    lists = lists_of([list(range(1 << halvings))] * wide)
    mixes = [run(steps, samples, 1, None) for samples in lists]
    told = []
    for way, row in enumerate(rows):
        more = [(mix[way] << halvings) - summed(row, samples) for mix, samples in zip(mixes, lists)]
        least, greatest = min(more), max(more)
        ends = (list(lists[more.index(least)]), list(lists[more.index(greatest)]))
        told.append((fraction(least, 1 << halvings), ends[0], fraction(greatest, 1 << halvings), ends[1]))
    return told


def fractions_alike(one, other):
    """Whether the matrices of two mixers of as many ways are the same."""
    steps, others = one.steps(), other.steps()
    return scaled(steps, one.wide(), halved(others)) == scaled(others, one.wide(), halved(steps))


def scaled(steps, wide, halvings):
    """The whole matrix of steps, times 2 to the power of further halvings."""
    return [[number << halvings for number in row] for row in whole_matrix(steps, wide)]


def unlike_list(one, other, lists):
    """The first of the lists that two mixers mix unlike, or None."""
    steps, others = one.steps(), other.steps()
    for samples in lists:
        if run(steps, samples, 1, None) != run(others, samples, 1, None):
            return samples
    return None


def greater_halvings(one, other):
    """The greater halvings of two mixers."""
    return max([halved(one.steps()), halved(other.steps())])


def alike(one, other):
    """Whether two mixers of as many ways mix all lists alike."""
    if not fractions_alike(one, other):
        return False
    rests = list(range(1 << greater_halvings(one, other)))
    return unlike_list(one, other, lists_of([rests] * one.wide())) is None


def same_mix(one, other):
    """Whether two mixers mix all lists alike."""
    check_mixers(one, other)
    return alike(one, other)


def parted_samples(one, other):
    """The first of the least lists that two mixers mix unlike, or None."""
    check_mixers(one, other)
    if alike(one, other):
        return None
    size, found = 0, None
    # Noughts alone are mixed alike by all. Numbers as far as 2 to the power of the halvings have each rest
    # twice: they part what can be parted.
    while found is None:
        size += 1
        lists = lists_of([list(range(-size, size + 1))] * one.wide())
        found = unlike_list(one, other, [samples for samples in lists if size in samples or -size in samples])
    return found


def rest_ends(low, high, halvings):
    """For each rest by 2 to the power of the halvings the least and the greatest number with it from low to high."""
    apart = 1 << halvings
    least = range(low, min([low + apart, high + 1]))
    return [(number, high - ((high - number) & (apart - 1))) for number in least]


def extremes(steps, wide, boxes):
    """For each way a tuple of the least and the greatest number behind the steps, each with its list."""
    halvings = halved(steps)
    rows = whole_matrix(steps, wide)
    told = [None] * wide
    for ends in lists_of([rest_ends(low, high, halvings) for low, high in boxes]):
        mix = run(steps, [pair[0] for pair in ends], 1, None)
        for way, row in enumerate(rows):
            falls = [factor * (pair[1] - pair[0]) >> halvings for factor, pair in zip(row, ends)]
            least = mix[way] + sum([by for by in falls if by < 0])
            greatest = mix[way] + sum([by for by in falls if by > 0])
            told[way] = wider(told[way], least, greatest, row, ends)
    return told


def wider(told, least, greatest, row, ends):
    """The tuple of the least and the greatest with their lists, if those of these rests go beyond it."""
    low, samples, high, others = told if told is not None else (least + 1, [], greatest - 1, [])
    if least < low:
        low, samples = least, [pair[1] if factor < 0 else pair[0] for factor, pair in zip(row, ends)]
    if greatest > high:
        high, others = greatest, [pair[1] if factor > 0 else pair[0] for factor, pair in zip(row, ends)]
    return (low, samples, high, others)


def is_boxes(value, wide):
    """Whether a value is a list of tuples of a low and a high whole number, one a way."""
    if not isinstance(value, list) or len(value) != wide:
        return False
    return all([is_box(box) for box in value])


def is_box(value):
    """Whether a value is a tuple of two whole numbers, the first one at most the second one."""
    if not isinstance(value, tuple) or len(value) != 2:
        return False
    return is_number(value[0]) and is_number(value[1]) and value[0] <= value[1]


def ranges(mixer, boxes):
    """For each way the least and the greatest number that comes out of boxes, each with such a list."""
    check_mixer(mixer)
    if not is_boxes(boxes, mixer.wide()):
        raise InvalidBoxes(boxes)
    return extremes(mixer.steps(), mixer.wide(), boxes)


def depth_boxes(depth, wide):
    """The boxes of all samples of a depth."""
    return [(least_sample(depth), greatest_sample(depth))] * wide


def depths_behind(steps, wide, depth):
    """For each way the least depth of which all is that comes out of samples of a depth."""
    return [depth_of(told[0], told[2]) for told in extremes(steps, wide, depth_boxes(depth, wide))]


def enough(mixer, depth):
    """For each way the least depth of which all is that comes out of samples of a depth."""
    check_mixer(mixer)
    check_depth(depth, GREATEST_DEPTH)
    return depths_behind(mixer.steps(), mixer.wide(), depth)


def on_the_way(mixer, depth):
    """The least depth of which all numbers are, at the beginning and behind each step."""
    check_mixer(mixer)
    check_depth(depth, GREATEST_DEPTH)
    steps = mixer.steps()
    behind = [max(depths_behind(steps[:at + 1], mixer.wide(), depth)) for at in range(len(steps))]
    return max([depth] + behind)


def same_within(one, other, depth):
    """Whether two mixers mix all samples of a depth alike."""
    return parted_within(one, other, depth) is None


def parted_within(one, other, depth):
    """Samples of a depth that two mixers mix unlike, or None."""
    check_mixers(one, other)
    check_depth(depth, GREATEST_DEPTH)
    low, high = least_sample(depth), greatest_sample(depth)
    apart = 1 << greater_halvings(one, other)
    lists = lists_of([list(range(low, min([low + apart, high + 1])))] * one.wide())
    # Two mixers alike at all rests differ farther out only as their matrices do: the next number tells that.
    if low + apart <= high:
        lists += [[low + apart if at == way else low for at in range(one.wide())] for way in range(one.wide())]
    found = unlike_list(one, other, lists)
    return None if found is None else list(found)


def commute(one, other):
    """Whether both orders of two mixers, joined, mix alike."""
    check_mixers(one, other)
    return alike(joined_mixers(one, other), joined_mixers(other, one))
