"""Marks: rows of bits that are told from others by their borders, and rows in which a mark stands nowhere."""

from wholesound.arguments import check_within, is_bits
from wholesound.errors import InvalidMark

LEAST_BITS = 2
MOST_BITS = 16
MOST_COUNTED = 1000


def check_mark(mark):
    """Refuse what is no mark."""
    if not is_bits(mark) or not LEAST_BITS <= len(mark) <= MOST_BITS:
        raise InvalidMark(mark)


def borders_of(bits):
    """The numbers of first bits, some but not all, that are the last ones as well."""
    return [many for many in range(1, len(bits)) if bits.startswith(bits[len(bits) - many:])]


def is_kept_apart(mark):
    """Whether some of the bits of a mark but the last are its last bit."""
    return mark[-1] in mark[:-1]


def borders(mark):
    """The numbers of first bits of a mark, some but not all, that are its last ones as well."""
    check_mark(mark)
    return borders_of(mark)


def is_free(mark):
    """Whether a mark has no borders."""
    check_mark(mark)
    return borders_of(mark) == []


def is_keepable(mark):
    """Whether some of the bits of a mark but the last are its last bit."""
    check_mark(mark)
    return is_kept_apart(mark)


def how_many_free(many):
    """How many marks of so many bits have no borders."""
    check_within(many, LEAST_BITS, MOST_COUNTED)
    told = [0, 2]
    for length in range(2, many + 1):
        # A free row may get either bit in its middle, unless its halves become one and the same free row.
        told.append(2 * told[-1] - (0 if length & 1 else told[length // 2]))
    return told[many]


def states_behind(bits):
    """For each number of first bits that stand last: how many do behind a 0, and behind a 1.

    All bits standing last is the last of these numbers, and nothing is told behind it.
    """
    return [[overlap(bits, bits[:state] + sign) for sign in "01"] for state in range(len(bits))]


def overlap(bits, row):
    """The greatest number of first bits that are the last ones of a row."""
    most = min([len(bits), len(row)])
    return max([many for many in range(most + 1) if row.endswith(bits[:many])])


def next_counts(counts, behind):
    """From how many rows end in each state to how many do with a further bit, where none may end in all bits."""
    found = [0] * len(counts)
    for state, many in enumerate(counts):
        for reached in behind[state]:
            if reached < len(counts):
                found[reached] += many
    return found


def rows_without(mark, many):
    """In how many rows of so many bits a mark stands nowhere."""
    check_mark(mark)
    check_within(many, 0, MOST_COUNTED)
    counts, behind = [1] + [0] * (len(mark) - 1), states_behind(mark)
    for _ in range(many):
        counts = next_counts(counts, behind)
    return sum(counts)


def same_marks(one, other):
    """Whether two marks stand nowhere in as many rows of each number of bits."""
    check_mark(one)
    check_mark(other)
    return len(one) == len(other) and borders_of(one) == borders_of(other)


def parting_length(one, other):
    """The least number of bits for which two marks do not stand nowhere in as many rows, or None."""
    if same_marks(one, other):
        return None
    many, counts, others = 0, [1] + [0] * (len(one) - 1), [1] + [0] * (len(other) - 1)
    behind, beyond = states_behind(one), states_behind(other)
    # Marks of other lengths or borders part the numbers before long.
    while sum(counts) == sum(others):
        counts, others = next_counts(counts, behind), next_counts(others, beyond)
        many += 1
    return many
