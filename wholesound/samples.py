"""The samples of a depth, for callers that have checked their arguments already."""

from wholesound.arguments import is_number


def least_sample(depth):
    """The least sample of a depth."""
    return -(1 << (depth - 1))


def greatest_sample(depth):
    """The greatest sample of a depth."""
    return (1 << (depth - 1)) - 1


def wrapped(number, depth):
    """The sample of a depth that differs from a number by a multiple of 2 to the power of the depth."""
    half = 1 << (depth - 1)
    return ((number + half) & ((1 << depth) - 1)) - half


def wrapped_row(row, depth):
    """A new list of the samples of a depth that numbers are wrapped to."""
    return [wrapped(number, depth) for number in row]


def is_samples(value, depth):
    """Whether a value is a list of samples of a depth."""
    if not isinstance(value, list):
        return False
    low, high = least_sample(depth), greatest_sample(depth)
    return all([is_number(sample) and low <= sample <= high for sample in value])


def is_samples_of(value, depth, many):
    """Whether a value is a list of so many samples of a depth."""
    return is_samples(value, depth) and len(value) == many


def depth_of(low, high):
    """The least depth of which both numbers are samples."""
    return max([sign_bits(low), sign_bits(high)])


def sign_bits(number):
    """The least depth of which a number is a sample."""
    without_sign = number if number >= 0 else -number - 1
    return without_sign.bit_length() + 1


def folded(number):
    """The count that stands for a whole number: even ones for those from 0 on, odd ones below 0."""
    return 2 * number if number >= 0 else -2 * number - 1


def unfolded(number):
    """The whole number of which a count is the fold."""
    return -(number + 1) // 2 if number & 1 else number // 2
