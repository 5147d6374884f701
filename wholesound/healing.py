"""What one changed rest spoils behind it, by guessers of shift 0."""

from wholesound.arguments import check_count, check_depth, check_from, check_number, check_within
from wholesound.guessers import GREATEST_DEPTH, check_whole_guesser, weighed
from wholesound.samples import wrapped


def spoilt(guesser, depth, place, change, many):
    """The places at which the row of so many rests is another one behind a change, and what is added there."""
    check_change(guesser, depth, place)
    check_number(change)
    check_from(many, place + 1)
    added = differences(guesser, depth, place, change, many)
    return [(at, by) for at, by in enumerate(added) if by != 0]


def spoilt_by_bit(guesser, depth, place, bit, many):
    """The places at which the row is another one if a bit of the fold of a rest is turned."""
    check_change(guesser, depth, place)
    check_within(bit, 0, depth - 1)
    check_from(many, place + 1)
    # The lowest bit of a fold turns the sign: this changes the rest by an odd number, and where an odd
    # number spoils, 1 does. Any other bit adds or takes half of what it is worth.
    change = 1 if bit == 0 else 1 << (bit - 1)
    added = differences(guesser, depth, place, change, many)
    return [at for at, by in enumerate(added) if by != 0]


def healed_at(guesser, depth, place, change):
    """The least place from which on no sample of any row is another one behind a change, or None."""
    check_change(guesser, depth, place)
    check_number(change)
    order = guesser.order()
    # The last samples, as many as weights, either heal within order times depth places, or never:
    # each chain of ever smaller sets of what they can be is no longer.
    many = max([place + 1, order]) + order * depth
    added = differences(guesser, depth, place, change, many)
    if any([by != 0 for by in added[many - order:]]):
        return None
    return max([at + 1 for at, by in enumerate(added) if by != 0], default=0)


def most_spoilt(guesser, depth):
    """The greatest number of places from a changed rest behind the firsts to the last spoilt sample, or None."""
    check_whole_guesser(guesser)
    check_depth(depth, GREATEST_DEPTH)
    # Each change spoils as a multiple of 1 does: so 1 spoils the most, and alike at all places.
    healed = healed_at(guesser, depth, guesser.order(), 1)
    return None if healed is None else healed - guesser.order()


def check_change(guesser, depth, place):
    """Refuse what is no guesser of shift 0, no depth, or no place."""
    check_whole_guesser(guesser)
    check_depth(depth, GREATEST_DEPTH)
    check_count(place)


def differences(guesser, depth, place, change, many):
    """What a change of the rest at a place adds to each of so many samples of any row, wrapped."""
    weights, order = guesser.weights(), guesser.order()
    added = [0] * many
    for at in range(place, many):
        by = change if at == place else 0
        if at >= order:
            by += weighed(weights, added, at)
        added[at] = wrapped(by, depth)
    return added
