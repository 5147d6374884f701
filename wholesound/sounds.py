"""Samples, sounds, and numbers told by bits."""

from wholesound.arguments import check_count, check_depth, check_number, check_within, is_bits
from wholesound.bitrows import bits_of, number_of
from wholesound.errors import InvalidBits, InvalidList, InvalidNumber, InvalidRow, InvalidSound, Unlike
from wholesound.samples import folded, is_samples, unfolded, wrapped

GREATEST_WRAP = 40
GREATEST_DEPTH = 24
MOST_WAYS = 4
MOST_SAMPLES = 4095
MOST_BITS = 64


def wrap(number, depth):
    """The one sample of a depth that differs from a number by a multiple of 2 to the power of the depth."""
    check_number(number)
    check_depth(depth, GREATEST_WRAP)
    return wrapped(number, depth)


def fold(number):
    """The count that stands for a whole number: even ones for those from 0 on, odd ones below 0."""
    check_number(number)
    return folded(number)


def unfold(number):
    """The whole number of which a count is the fold."""
    check_count(number)
    return unfolded(number)


class Sound:
    """Samples of one depth in 1 to 4 ways, all of one length."""

    def __init__(self, depth, ways):
        check_depth(depth, GREATEST_DEPTH)
        if not isinstance(ways, list) or not 1 <= len(ways) <= MOST_WAYS:
            raise InvalidList(ways)
        for way in ways:
            if not is_samples(way, depth) or len(way) > MOST_SAMPLES or len(way) != len(ways[0]):
                raise InvalidRow(way)
        self._depth = depth
        self._ways = [list(way) for way in ways]

    def depth(self):
        """The depth of which all samples are."""
        return self._depth

    def ways(self):
        """The samples of each way."""
        return [list(way) for way in self._ways]

    def way(self, at):
        """The samples of the way with a number, from 0."""
        check_within(at, 0, len(self._ways) - 1)
        return list(self._ways[at])

    def many(self):
        """How many samples each way has."""
        return len(self._ways[0])

    def __eq__(self, other):
        return isinstance(other, Sound) and self._depth == other._depth and self._ways == other._ways


def check_sound(sound):
    """Refuse what is no sound."""
    if not isinstance(sound, Sound):
        raise InvalidSound(sound)


def part(sound, low, high):
    """The sound of the samples with the numbers from `low` on that are below `high`."""
    check_sound(sound)
    check_within(low, 0, sound.many())
    check_within(high, low, sound.many())
    return Sound(sound.depth(), [way[low:high] for way in sound.ways()])


def joined(one, other):
    """The sound of two sounds of one depth and as many ways, one behind the other."""
    check_sound(one)
    check_sound(other)
    ways, more = one.ways(), other.ways()
    alike = one.depth() == other.depth() and len(ways) == len(more)
    if not alike or one.many() + other.many() > MOST_SAMPLES:
        raise Unlike(other)
    return Sound(one.depth(), [way + behind for way, behind in zip(ways, more)])


def number_bits(number, many):
    """The bits, so many, of a count, the highest one first."""
    check_count(number)
    check_within(many, 0, MOST_BITS)
    if number >> many:
        raise InvalidNumber(number)
    return bits_of(number, many)


def bits_number(bits):
    """The number that at most 64 bits tell, 0 for none."""
    if not is_bits(bits) or len(bits) > MOST_BITS:
        raise InvalidBits(bits)
    return number_of(bits)
