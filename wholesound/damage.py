"""Damage to rows of bits, and how many samples any few hurts of carried rows can spoil, with papers that prove it."""

from wholesound.arguments import check_bits, check_count, is_count, is_counts, is_within
from wholesound.bitrows import turned_at
from wholesound.errors import InvalidCounts, InvalidItem, InvalidList
from wholesound.sounds import MOST_SAMPLES

MOST_ROWS = 60


def hurt(bits, hurts):
    """The row behind hurts, each done upon what those ahead of it made."""
    check_bits(bits)
    if not isinstance(hurts, list):
        raise InvalidList(hurts)
    for one in hurts:
        if not is_hurt(one, len(bits)):
            raise InvalidItem(one)
        bits = hurt_once(bits, one)
    return bits


def is_hurt(value, many):
    """Whether a value is a hurt that has its place in a row of so many bits."""
    if not isinstance(value, tuple) or len(value) not in (2, 3):
        return False
    if len(value) == 3:
        return value[0] == "put" and is_within(value[1], 0, many) and value[2] in ("0", "1")
    return value[0] in ("turn", "lose") and is_within(value[1], 0, many - 1)


def hurt_once(bits, one):
    """The row behind a hurt that has its place in it."""
    at = one[1]
    if one[0] == "turn":
        return turned_at(bits, at)
    if one[0] == "put":
        return bits[:at] + one[2] + bits[at:]
    return bits[:at] + bits[at + 1:]


def check_lengths(lengths, many):
    """Refuse what are no numbers of samples of rows, or no number of hurts."""
    if not is_counts(lengths) or len(lengths) > MOST_ROWS or max(lengths, default=0) > MOST_SAMPLES:
        raise InvalidCounts(lengths)
    check_count(many)


def spoilt_by(lengths, mark, is_hurt_ahead):
    """How many samples a hurt of a mark spoils, besides those that one of the mark ahead of it has spoilt."""
    ahead = lengths[mark - 1] if mark > 0 and not is_hurt_ahead else 0
    return ahead + (lengths[mark] if mark < len(lengths) else 0)


def most_from(lengths, many):
    """For each mark and number of hurts: the most samples from it on, where the mark ahead is whole, and is hurt."""
    behind = [(0, 0)] * (many + 1)
    found = [behind]
    for mark in reversed(range(len(lengths) + 1)):
        row = [(0, 0)]
        for left in range(1, many + 1):
            hurt_now = behind[left - 1][1]
            row.append((max([behind[left][0], spoilt_by(lengths, mark, False) + hurt_now]),
                        max([behind[left][0], spoilt_by(lengths, mark, True) + hurt_now])))
        found.append(row)
        behind = row
    return found[::-1]


def worst_of(lengths, many):
    """The most samples that so many hurts spoil, and marks that do it."""
    left = min([many, len(lengths) + 1])
    table, marks = most_from(lengths, left), []
    most = table[0][left][0]
    for mark in range(len(lengths) + 1):
        at = 1 if marks != [] and marks[-1] == mark - 1 else 0
        # A mark is hurt only where nothing else does it: what is left for the marks behind is as much then.
        if table[mark][left][at] > table[mark + 1][left][0]:
            marks.append(mark)
            left -= 1
    return (most, marks)


def most_lost(lengths, many):
    """The greatest number of samples that so many hurts spoil."""
    check_lengths(lengths, many)
    return worst_of(lengths, many)[0]


def worst_marks(lengths, many):
    """At most so many different marks, ascending, whose hurts spoil the most samples."""
    check_lengths(lengths, many)
    return worst_of(lengths, many)[1]


def greatest_counts(lengths, least):
    """A number for each row, each as great as it may be behind those ahead, no two side by side above `least`."""
    counts = []
    for length in lengths:
        counts.append(min([length, least - counts[-1] if counts else least]))
    return counts


def told_in_all(lengths, many, least, counts):
    """How many samples a paper tells at most: so many times `least`, and what each row has more than its number."""
    return many * least + sum(lengths) - sum(counts)


def lost_paper(lengths, many):
    """A tuple of a number and a list of numbers that tells why not more samples can be lost."""
    check_lengths(lengths, many)
    low, high = 0, 2 * MOST_SAMPLES
    # What papers tell falls, and from some number on it only grows or stays: the least one that it does from is sought.
    while low < high:
        middle = (low + high) // 2
        now = told_in_all(lengths, many, middle, greatest_counts(lengths, middle))
        behind = told_in_all(lengths, many, middle + 1, greatest_counts(lengths, middle + 1))
        low, high = (low, middle) if behind >= now else (middle + 1, high)
    return (low, greatest_counts(lengths, low))


def is_lost_paper(lengths, many, value):
    """Whether a value is such a tuple."""
    check_lengths(lengths, many)
    if not isinstance(value, tuple) or len(value) != 2:
        return False
    least, counts = value
    if not is_count(least) or not is_counts(counts) or len(counts) != len(lengths):
        return False
    if any([number > min([length, least]) for number, length in zip(counts, lengths)]):
        return False
    if any([one + other > least for one, other in zip(counts, counts[1:])]):
        return False
    return told_in_all(lengths, many, least, counts) == worst_of(lengths, many)[0]
