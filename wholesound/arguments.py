"""What arguments are: numbers, lists of numbers and bits, and the checks that several modules share."""

from wholesound.errors import InvalidBits, InvalidDepth, InvalidNumber


def is_number(value):
    """Whether a value is a whole number; a Boolean is none, though Python counts with it."""
    return isinstance(value, int) and not isinstance(value, bool)


def is_within(value, low, high):
    """Whether a value is a whole number from `low` to `high`."""
    return is_number(value) and low <= value <= high


def is_count(value):
    """Whether a value is a whole number of at least 0."""
    return is_number(value) and value >= 0


def is_numbers(value):
    """Whether a value is a list of whole numbers."""
    return isinstance(value, list) and all([is_number(item) for item in value])


def is_counts(value):
    """Whether a value is a list of whole numbers of at least 0."""
    return isinstance(value, list) and all([is_count(item) for item in value])


def is_bits(value):
    """Whether a value is a string of the signs 0 and 1."""
    return isinstance(value, str) and all([sign in ("0", "1") for sign in value])


def is_just(value, wanted):
    """Whether a value is just what is wanted, kinds included; that is made of None, numbers, strings and rows."""
    if isinstance(wanted, list):
        return isinstance(value, list) and are_just(value, wanted)
    if isinstance(wanted, tuple):
        return isinstance(value, tuple) and are_just(value, wanted)
    if isinstance(wanted, str):
        return isinstance(value, str) and value == wanted
    return value is None if wanted is None else is_number(value) and value == wanted


def are_just(values, wanted):
    """Whether the items of a row are just those of another one."""
    return len(values) == len(wanted) and all([is_just(one, other) for one, other in zip(values, wanted)])


def check_number(number):
    """Refuse what is no whole number."""
    if not is_number(number):
        raise InvalidNumber(number)


def check_within(number, low, high):
    """Refuse what is no whole number from `low` to `high`."""
    if not is_within(number, low, high):
        raise InvalidNumber(number)


def check_from(number, low):
    """Refuse what is no whole number of at least `low`."""
    if not is_number(number) or number < low:
        raise InvalidNumber(number)


def check_count(number):
    """Refuse what is no whole number of at least 0."""
    check_from(number, 0)


def check_depth(depth, most):
    """Refuse what is no depth from 1 to `most`."""
    if not is_within(depth, 1, most):
        raise InvalidDepth(depth)


def check_bits(bits):
    """Refuse what is no bits."""
    if not is_bits(bits):
        raise InvalidBits(bits)
