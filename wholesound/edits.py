"""Edits: what of some sources a sound is told of, edits one behind the other, and how an edit is led back."""

from wholesound.arguments import check_within, is_just, is_numbers, is_within
from wholesound.errors import InvalidDepth, InvalidEdit, InvalidItem, InvalidList, InvalidPiece, Unlike
from wholesound.samples import is_samples
from wholesound.sounds import GREATEST_DEPTH, MOST_SAMPLES, MOST_WAYS, Sound

MOST_SOURCES = 8
MOST_PIECES = 60


class Edit:
    """Numbers of moments, one a source, how many ways there are, and what is kept or given, in order."""

    def __init__(self, lengths, ways, pieces):
        check_lengths(lengths)
        check_within(ways, 1, MOST_WAYS)
        check_pieces(lengths, ways, pieces)
        self._lengths = list(lengths)
        self._ways = ways
        self._pieces = made_one(pieces)

    def lengths(self):
        """How many moments each source has."""
        return list(self._lengths)

    def ways(self):
        """How many ways there are."""
        return self._ways

    def pieces(self):
        """What is kept or given, in order, neighbours made one where they can be."""
        return [copied(piece) for piece in self._pieces]

    def length(self):
        """How many moments are told."""
        return sum([moments_in(piece) for piece in self._pieces])

    def came_from(self, place):
        """The source and the place of the moment told at a place, None for a given one."""
        check_within(place, 0, self.length() - 1)
        for piece in self._pieces:
            if place < moments_in(piece):
                return (piece[1], piece[2] + place) if piece[0] == "keep" else None
            place -= moments_in(piece)
        return None

    def __eq__(self, other):
        return (isinstance(other, Edit) and self._lengths == other._lengths and self._ways == other._ways
                and self._pieces == other._pieces)


def check_lengths(lengths):
    """Refuse what is no list of numbers of moments, or the first item that is none."""
    if not isinstance(lengths, list) or not 1 <= len(lengths) <= MOST_SOURCES:
        raise InvalidList(lengths)
    for length in lengths:
        if not is_within(length, 0, MOST_SAMPLES):
            raise InvalidItem(length)


def check_pieces(lengths, ways, pieces):
    """Refuse what is no list of pieces, the first item that is none, or pieces that tell too much."""
    if not isinstance(pieces, list) or len(pieces) > MOST_PIECES:
        raise InvalidList(pieces)
    for piece in pieces:
        if not is_piece(piece, lengths, ways):
            raise InvalidPiece(piece)
    if sum([moments_in(piece) for piece in pieces]) > MOST_SAMPLES:
        raise InvalidList(pieces)


def is_piece(value, lengths, ways):
    """Whether a value is a piece of an edit of sources of these lengths."""
    if not isinstance(value, tuple) or len(value) not in (2, 4):
        return False
    if len(value) == 2:
        return is_just(value[0], "given") and is_rows(value[1], ways)
    if not is_just(value[0], "keep") or not is_within(value[1], 0, len(lengths) - 1):
        return False
    length = lengths[value[1]]
    return is_within(value[2], 0, length - 1) and is_within(value[3], 1, length - value[2])


def is_rows(value, ways):
    """Whether a value is a list of as many rows, of equally many samples, at least one, of the greatest depth."""
    if not isinstance(value, list) or len(value) != ways:
        return False
    if not all([is_samples(row, GREATEST_DEPTH) for row in value]):
        return False
    return value[0] != [] and all([len(row) == len(value[0]) for row in value])


def moments_in(piece):
    """How many moments a piece tells."""
    return piece[3] if piece[0] == "keep" else len(piece[1][0])


def copied(piece):
    """The piece, with lists of its own."""
    return ("given", [list(row) for row in piece[1]]) if piece[0] == "given" else piece


def made_one(pieces):
    """The pieces, with lists of their own, neighbours made one where they can be."""
    left = []
    for piece in pieces:
        if left and left[-1][0] == "given" and piece[0] == "given":
            left[-1] = ("given", [row + more for row, more in zip(left[-1][1], piece[1])])
        elif left and goes_on(left[-1], piece):
            left[-1] = ("keep", piece[1], left[-1][2], left[-1][3] + piece[3])
        else:
            left.append(copied(piece))
    return left


def goes_on(piece, behind):
    """Whether both pieces keep, and the second one goes on in the same source just behind the first."""
    if piece[0] != "keep" or behind[0] != "keep":
        return False
    return behind[1] == piece[1] and behind[2] == piece[2] + piece[3]


def edit_of(lengths, ways, pieces):
    """The edit of right pieces, however many they are."""
    edit = Edit(lengths, ways, [])
    edit._pieces = made_one(pieces)
    return edit


def check_edit(edit):
    """Refuse what is no edit."""
    if not isinstance(edit, Edit):
        raise InvalidEdit(edit)


def check_edit_of(edit, lengths, ways):
    """Refuse what is no edit of sources of these lengths with so many ways."""
    if not isinstance(edit, Edit) or edit.lengths() != lengths or edit.ways() != ways:
        raise InvalidEdit(edit)


def check_sources(edit, sounds):
    """Refuse what are no sounds for the sources of an edit, or not all of one depth."""
    if not isinstance(sounds, list) or len(sounds) != len(edit.lengths()):
        raise InvalidList(sounds)
    for sound, length in zip(sounds, edit.lengths()):
        if not isinstance(sound, Sound) or sound.many() != length or len(sound.ways()) != edit.ways():
            raise InvalidItem(sound)
    for sound in sounds:
        if sound.depth() != sounds[0].depth():
            raise Unlike(sound)


def told(edit, sounds):
    """The sound that an edit tells of sounds, one a source."""
    check_edit(edit)
    check_sources(edit, sounds)
    depth, sources = sounds[0].depth(), [sound.ways() for sound in sounds]
    pieces, ways = edit.pieces(), []
    for piece in pieces:
        if piece[0] == "given" and not all([is_samples(row, depth) for row in piece[1]]):
            raise InvalidDepth(depth)
    for way in range(edit.ways()):
        row = []
        for piece in pieces:
            row += rows_told(piece, sources)[way]
        ways.append(row)
    return Sound(depth, ways)


def rows_told(piece, sources):
    """What a piece tells of the ways of sources: a row for each way."""
    if piece[0] == "given":
        return piece[1]
    _, source, first, many = piece
    return [row[first:first + many] for row in sources[source]]


def identity(length, ways):
    """The edit that keeps one whole source."""
    check_within(length, 0, MOST_SAMPLES)
    return Edit([length], ways, whole_pieces(0, length))


def whole_pieces(source, length):
    """The pieces that keep all of a source."""
    return [("keep", source, 0, length)] if length > 0 else []


def then(first, second):
    """The edit that tells what the second one tells of what the first one tells."""
    check_edit(first)
    check_edit_of(second, [first.length()], first.ways())
    return edit_of(first.lengths(), first.ways(), pieces_through([first.pieces()], second.pieces()))


def pieces_through(firsts, pieces):
    """What pieces tell of sources that are told by pieces themselves, a list for each."""
    indexes, found = [index_of(told_by) for told_by in firsts], []
    for piece in pieces:
        if piece[0] == "given":
            found.append(piece)
        else:
            _, source, low, many = piece
            found += pieces_between(firsts[source], indexes[source], low, low + many)
    return found


def index_of(pieces):
    """For each moment that pieces tell: the number of its piece, and its place in it."""
    return [(at, place) for at, piece in enumerate(pieces) for place in range(moments_in(piece))]


def pieces_between(pieces, index, low, high):
    """The pieces that tell the moments from `low` on that are below `high`."""
    found = []
    while low < high:
        at, place = index[low]
        many = min([moments_in(pieces[at]) - place, high - low])
        found.append(part_of(pieces[at], place, many))
        low += many
    return found


def part_of(piece, place, many):
    """The piece that tells so many of the moments of a piece, from a place on."""
    if piece[0] == "given":
        return ("given", [row[place:place + many] for row in piece[1]])
    return ("keep", piece[1], piece[2] + place, many)


def parted(one, other):
    """Sounds, nearly all noughts, of which two edits tell unlike sounds, or None."""
    check_edit(one)
    check_edit(other)
    if one.lengths() != other.lengths() or one.ways() != other.ways():
        raise Unlike(other)
    if one == other:
        return None
    rows = [[[0] * length for _ in range(one.ways())] for length in one.lengths()]
    if one.length() == other.length():
        spot = parting_spot(moments_told(one.pieces()), moments_told(other.pieces()))
        if spot is not None:
            rows[spot[0]][0][spot[1]] = 1
    return [Sound(GREATEST_DEPTH, ways) for ways in rows]


def moments_told(pieces):
    """For each moment that pieces tell: the source and the place that it is kept from, or None and its samples."""
    found = []
    for piece in pieces:
        if piece[0] == "keep":
            found += [(piece[1], piece[2] + at) for at in range(piece[3])]
        else:
            found += [(None, [row[at] for row in piece[1]]) for at in range(moments_in(piece))]
    return found


def parting_spot(moments, others):
    """The source and the place that part two unlike rows of moments by a 1, None if noughts alone do."""
    at = [one == other for one, other in zip(moments, others)].index(False)
    kept, given = (moments[at], others[at]) if moments[at][0] is not None else (others[at], moments[at])
    if kept[0] is None:
        return None
    # What is given is told whatever the source: beside it a nought parts them as well, unless noughts are given.
    return None if given[0] is None and any(given[1]) else kept


def farthest_runs(edit, source):
    """For each place of a source: the end of the run that goes farthest, of those up to it, and how far it is moved."""
    length, place = edit.lengths()[source], 0
    found = [(0, 0)] * length
    for piece in edit.pieces():
        if piece[0] == "keep" and piece[1] == source:
            _, _, first, many = piece
            found[first] = max([found[first], (first + many, place - first)])
        place += moments_in(piece)
    for at in range(1, length):
        found[at] = max([found[at], found[at - 1]])
    return found


def lost_places(runs):
    """The places of a source that stand in no run."""
    return [at for at, run in enumerate(runs) if run[0] <= at]


def recovered(edit, source):
    """The places of a source that are lost, or the edit that leads back to it with the fewest pieces."""
    check_edit(edit)
    check_within(source, 0, len(edit.lengths()) - 1)
    runs = farthest_runs(edit, source)
    if lost_places(runs):
        return ("lost", lost_places(runs))
    pieces, places, at = [], [], 0
    while at < len(runs):
        end, moved = runs[at]
        pieces.append(("keep", 0, at + moved, end - at))
        places.append(at)
        at = end
    return ("whole", edit_of([edit.length()], edit.ways(), pieces), places)


def is_recovery(edit, source, value):
    """Whether a value tells the lost places of a source, or an edit that leads back to it with the fewest pieces."""
    check_edit(edit)
    check_within(source, 0, len(edit.lengths()) - 1)
    runs = farthest_runs(edit, source)
    if lost_places(runs):
        return is_just(value, ("lost", lost_places(runs)))
    if not isinstance(value, tuple) or len(value) != 3 or not is_just(value[0], "whole"):
        return False
    _, back, places = value
    if not is_way_back(edit, source, back) or not is_numbers(places) or len(places) != len(back.pieces()):
        return False
    if not all([0 <= at < len(runs) for at in places]):
        return False
    return all([runs[one][0] <= other for one, other in zip(places, places[1:])])


def is_way_back(edit, source, value):
    """Whether a value is an edit that tells just a whole source of what an edit tells."""
    if not isinstance(value, Edit) or value.lengths() != [edit.length()] or value.ways() != edit.ways():
        return False
    return then(edit, value).pieces() == whole_pieces(source, edit.lengths()[source])
