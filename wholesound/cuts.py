"""Cuts of sources into blocks: which blocks edits keep whole, and cuts by which the fewest moments are told anew."""

from wholesound.arguments import check_within, is_just, is_numbers
from wholesound.edits import Edit, check_edit, moments_in
from wholesound.errors import InvalidItem, InvalidList
from wholesound.sounds import MOST_SAMPLES

MOST_EDITS = 20
MOST_BLOCKS = 60


def is_cuts(value, length):
    """Whether a value is cuts of a source of a length: ascending places, its beginning and its end among them."""
    if not is_numbers(value) or value == [] or value[0] != 0 or value[-1] != length:
        return False
    return all([one < other for one, other in zip(value, value[1:])])


def check_cuts(edit, cuts):
    """Refuse what is no edit, what is no list of cuts, one a source, or the first item that is none."""
    check_edit(edit)
    if not isinstance(cuts, list) or len(cuts) != len(edit.lengths()):
        raise InvalidList(cuts)
    for places, length in zip(cuts, edit.lengths()):
        if not is_cuts(places, length):
            raise InvalidItem(places)


def firsts_of(places):
    """For each place of a source the number of the first block that begins at it or behind."""
    found = []
    for block, (begin, end) in enumerate(zip([-1] + places[:-1], places)):
        found += [block] * (end - begin)
    return found


def kept_of(edit, cuts):
    """What `kept_blocks` tells of an edit and cuts that are looked at already."""
    firsts, found, at = [firsts_of(places) for places in cuts], [], 0
    for piece in edit.pieces():
        if piece[0] == "keep":
            _, source, first, many = piece
            places, block = cuts[source], firsts[source][first]
            while block + 1 < len(places) and places[block + 1] <= first + many:
                found.append((at + places[block] - first, source, block))
                block += 1
        at += moments_in(piece)
    return found


def kept_blocks(edit, cuts):
    """For each piece and each block that it holds: where it is told, its source and its number."""
    check_cuts(edit, cuts)
    return kept_of(edit, cuts)


def anew(edit, cuts):
    """How many kept moments lie in no block that their piece holds."""
    check_cuts(edit, cuts)
    return anew_of(edit, cuts)


def anew_of(edit, cuts):
    """What `anew` tells of an edit and cuts that are looked at already."""
    moments = sum([piece[3] for piece in edit.pieces() if piece[0] == "keep"])
    held = [cuts[source][block + 1] - cuts[source][block] for _, source, block in kept_of(edit, cuts)]
    return moments - sum(held)


def check_best(length, edits, many):
    """Refuse what is no length, no list of edits of one source of this length, or no number of blocks."""
    check_within(length, 0, MOST_SAMPLES)
    if not isinstance(edits, list) or len(edits) > MOST_EDITS:
        raise InvalidList(edits)
    for edit in edits:
        if not isinstance(edit, Edit) or edit.lengths() != [length]:
            raise InvalidItem(edit)
    check_within(many, min([length, 1]), MOST_BLOCKS)


def spans_of(edits):
    """How often each stretch of the source is kept by a piece: a dict by its first place and the one behind it."""
    found = {}
    for edit in edits:
        for piece in edit.pieces():
            if piece[0] == "keep":
                span = (piece[2], piece[2] + piece[3])
                found[span] = found.get(span, 0) + 1
    return found


def kept_up_to(length, spans):
    """For each place how many moments ahead of it are kept, each as often as it is."""
    kept = [0] * length
    for (first, end), many in spans.items():
        for at in range(first, end):
            kept[at] += many
    sums = [0]
    for many in kept:
        sums.append(sums[-1] + many)
    return sums


def holding_from(length, spans, low):
    """For each place how many of the stretches that are kept hold all from `low` on up to it."""
    found = [0] * (length + 1)
    for (first, end), many in spans.items():
        if first <= low:
            found[end] += many
    for high in reversed(range(length)):
        # Whatever ends behind a place holds what is ahead of it, too.
        found[high] += found[high + 1]
    return found


def block_prices(length, edits):
    """For some places, and each one behind: how many moments of the block between them pieces keep that don't hold it.

    A cut between two ends of pieces can be moved to one of them, or to the next cut, for no more: so these are the
    beginning and the ends of pieces.
    """
    spans = spans_of(edits)
    sums, begins = kept_up_to(length, spans), sorted([0] + [end for span in spans for end in span])
    found = {}
    for low in begins:
        if low < length and low not in found:
            holding = holding_from(length, spans, low)
            found[low] = [sums[high] - sums[low] - (high - low) * holding[high] for high in range(length + 1)]
    return found


def prices_of(length, blocks, many):
    """By the number of blocks and the place: the least sum of the places ahead in at most so many blocks, or None."""
    found = [[0] + [None] * length]
    for _ in range(many):
        ahead, row = found[-1], [0]
        for end in range(1, length + 1):
            row.append(min([ahead[low] + prices[end] for low, prices in blocks.items()
                            if low < end and ahead[low] is not None]))
        found.append(row)
    return found


def best_cuts(length, edits, many):
    """Cuts into at most so many blocks by which edits tell the fewest moments anew, how many, and all such numbers."""
    check_best(length, edits, many)
    blocks = block_prices(length, edits)
    prices = prices_of(length, blocks, many)
    cuts, end = [length], length
    for ahead, row in zip(prices[-2::-1], prices[:0:-1]):
        if end > 0:
            lows = [low for low in blocks
                    if low < end and ahead[low] is not None and ahead[low] + blocks[low][end] == row[end]]
            end = lows[0]
            cuts.append(end)
    return (cuts[::-1], prices[-1][length], prices)


def is_best_cuts(length, edits, many, value):
    """Whether a value is such cuts, their number, and all such numbers."""
    check_best(length, edits, many)
    if not isinstance(value, tuple) or len(value) != 3:
        return False
    cuts, number, prices = value
    if not is_cuts(cuts, length) or len(cuts) > many + 1:
        return False
    wanted = prices_of(length, block_prices(length, edits), many)
    if not is_just(number, wanted[-1][length]) or not is_just(prices, wanted):
        return False
    return sum([anew_of(edit, [cuts]) for edit in edits]) == number
