"""Sums of powers of x over two, told by numbers: the bit worth 2 to the power of j stands for x to the power of j."""


def product(one, other):
    """The product of two sums."""
    found = 0
    while other:
        if other & 1:
            found ^= one
        one <<= 1
        other >>= 1
    return found


def divided(one, other):
    """The quotient and the rest of a sum by one that is not 0."""
    quotient, length = 0, other.bit_length()
    while one.bit_length() >= length:
        times = one.bit_length() - length
        one ^= other << times
        quotient |= 1 << times
    return (quotient, one)


def rest_by(one, other):
    """The rest of a sum by one that is not 0."""
    return divided(one, other)[1]


def common(one, other):
    """The greatest sum that divides two sums, not both 0."""
    while other:
        one, other = other, rest_by(one, other)
    return one


def inverse_by(one, other):
    """The sum whose product with the first one has the rest of 1 by the second one; nothing divides both."""
    left, right, turned, kept = other, rest_by(one, other), 0, 1
    while right:
        quotient, rest = divided(left, right)
        left, right = right, rest
        turned, kept = kept, turned ^ product(quotient, kept)
    return rest_by(turned, other)


def raised(one, other, times):
    """The rest of a sum to a power, by another sum."""
    found = rest_by(1, other)
    while times:
        if times & 1:
            found = rest_by(product(found, one), other)
        one = rest_by(product(one, one), other)
        times >>= 1
    return found
