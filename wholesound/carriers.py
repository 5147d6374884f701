"""Rows of bits carried between marks: bits put in so that the mark stands nowhere else, and taken out again."""

from wholesound.arguments import check_bits, check_within, is_bits
from wholesound.errors import InvalidBits, InvalidMark, InvalidPieces
from wholesound.marks import borders_of, check_mark, is_kept_apart, overlap, states_behind

FARTHEST = 1000000000000000000
MOST_IN_ROW = 4000
MOST_LISTED = 60
MOST_SUMMED = 300


def check_keepable(mark):
    """Refuse what is no mark that bits can be kept apart from."""
    check_mark(mark)
    if not is_kept_apart(mark):
        raise InvalidMark(mark)


def check_carrier(mark):
    """Refuse what is no mark that rows can be carried by."""
    check_keepable(mark)
    if borders_of(mark) != []:
        raise InvalidMark(mark)


def put_in(mark):
    """The bit that is put in: the one that the last bit of the mark is not."""
    return "0" if mark[-1] == "1" else "1"


def stuffed_row(mark, bits):
    """The bits with one put in behind all bits of the mark but its last."""
    ahead, more = mark[:-1], put_in(mark)
    row = ""
    for sign in bits:
        row += sign
        if row.endswith(ahead):
            # Behind it not all of them stand last again, as one of them is another bit.
            row += more
    return row


def bare_row(mark, bits):
    """The row of which bits are the stuffed one, None if there is none."""
    ahead, more = mark[:-1], put_in(mark)
    signs, place = [], 0
    while place < len(bits):
        signs.append(bits[place])
        place += 1
        if bits[:place].endswith(ahead):
            if bits[place:place + 1] != more:
                return None
            place += 1
    return "".join(signs)


def stuffed(mark, bits):
    """The bits with one put in each time all bits of the mark but its last stand there."""
    check_keepable(mark)
    check_bits(bits)
    return stuffed_row(mark, bits)


def bare(mark, bits):
    """The row of which bits are the stuffed one."""
    check_keepable(mark)
    check_bits(bits)
    row = bare_row(mark, bits)
    if row is None:
        raise InvalidBits(bits)
    return row


def growth(mark, bits):
    """How many bits are put in."""
    check_keepable(mark)
    check_bits(bits)
    return len(stuffed_row(mark, bits)) - len(bits)


def state_behind(mark):
    """How many first bits of the mark stand last behind a bit that was put in."""
    return overlap(mark[:-1], mark[:-1] + put_in(mark))


def most_put_in(mark, many):
    """The most bits that are put in a row of so many."""
    first = len(mark) - 1
    if many < first:
        return 0
    return 1 + (many - first) // (first - state_behind(mark))


def most_growth(mark, many):
    """The most bits that are put in, of all rows of so many bits."""
    check_keepable(mark)
    check_within(many, 0, FARTHEST)
    return most_put_in(mark, many)


def most_row(mark, many):
    """A row of so many bits in which the most bits are put in."""
    check_keepable(mark)
    check_within(many, 0, MOST_IN_ROW)
    first, times = mark[:-1], most_put_in(mark, many)
    if times == 0:
        return "0" * many
    row = first + first[state_behind(mark):] * (times - 1)
    return row + "0" * (many - len(row))


def counts_behind(mark, counts):
    """By the bits put in so far and the state: how many rows there are with a further bit."""
    behind, reached_by = states_behind(mark[:-1]), state_behind(mark)
    found = [[0] * len(behind) for _ in range(len(counts) + 1)]
    for grown, row in enumerate(counts):
        for state, many in enumerate(row):
            for reached in behind[state]:
                if reached == len(behind):
                    found[grown + 1][reached_by] += many
                else:
                    found[grown][reached] += many
    return found if sum(found[-1]) > 0 else found[:-1]


def first_counts(mark):
    """By the bits put in and the state: the one row of no bits."""
    return [[1] + [0] * (len(mark) - 2)]


def growths(mark, many):
    """How many rows of so many bits grow by 0, 1 and so on up to the most."""
    check_keepable(mark)
    check_within(many, 0, MOST_LISTED)
    counts = first_counts(mark)
    for _ in range(many):
        counts = counts_behind(mark, counts)
    return [sum(row) for row in counts]


def sum_growth(mark, many):
    """By how many bits all rows of so many bits grow in all."""
    check_keepable(mark)
    check_within(many, 0, MOST_SUMMED)
    behind, reached_by = states_behind(mark[:-1]), state_behind(mark)
    counts, total = [1] + [0] * (len(mark) - 2), 0
    for left in reversed(range(many)):
        found = [0] * len(counts)
        for state, rows in enumerate(counts):
            for reached in behind[state]:
                if reached == len(counts):
                    # The bit put in counts once for each way in which the row may go on.
                    total += rows << left
                    found[reached_by] += rows
                else:
                    found[reached] += rows
        counts = found
    return total


def same_growths(one, other):
    """Whether as many rows of each number of bits grow by each number, for both marks."""
    check_keepable(one)
    check_keepable(other)
    return least_parted(one, other) is None


def parting_growth(one, other):
    """The least number of bits for which not as many rows grow by each number, or None."""
    check_keepable(one)
    check_keepable(other)
    return least_parted(one, other)


def least_parted(one, other):
    """The least number of bits of rows that grow unlike, or None."""
    counts, others = first_counts(one), first_counts(other)
    # When the first bit is put in and when the next ones are hangs on rules of fewer weights than the mark has
    # bits: what is alike for thrice as many bits is alike for all.
    for many in range(3 * max([len(one), len(other)]) + 1):
        if [sum(row) for row in counts] != [sum(row) for row in others]:
            return many
        counts, others = counts_behind(one, counts), counts_behind(other, others)
    return None


def carried(mark, rows):
    """The mark, and each row stuffed with the mark behind it."""
    check_carrier(mark)
    if not isinstance(rows, list) or not all([is_bits(row) for row in rows]):
        raise InvalidPieces(rows)
    return mark + "".join([stuffed_row(mark, row) + mark for row in rows])


def mark_places(mark, bits):
    """The places at which a free mark stands."""
    found, place = [], bits.find(mark)
    while place >= 0:
        found.append(place)
        place = bits.find(mark, place + len(mark))
    return found


def pieces_of(mark, bits):
    """For each two marks next to each other the place behind the first one, and the row between them or None."""
    places = mark_places(mark, bits)
    found = []
    for low, high in zip(places, places[1:]):
        begin = low + len(mark)
        found.append((begin, bare_row(mark, bits[begin:high])))
    return found


def pieces(mark, bits):
    """For each two marks next to each other the place behind the first one, and the row between them or None."""
    check_carrier(mark)
    check_bits(bits)
    return pieces_of(mark, bits)


def uncarried(mark, bits):
    """The rows of which bits are the carried one."""
    check_carrier(mark)
    check_bits(bits)
    rows = [row for _, row in pieces_of(mark, bits)]
    if not bits.startswith(mark) or not bits.endswith(mark) or None in rows:
        raise InvalidBits(bits)
    return rows
