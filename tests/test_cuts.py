"""[105]: blocks that edits keep whole, and the cuts by which the fewest moments are told anew."""

import itertools
import unittest

from wholesound.cuts import anew, best_cuts, is_best_cuts, kept_blocks
from wholesound.edits import Edit
from wholesound.errors import InvalidNumber
from wholesound.trims import trimmed
from wholesound.sounds import Sound

from tests.drawn import Drawn
from tests.odd import bent


def all_cuts(length):
    inner = range(1, length)
    return [sorted({0, length} | set(chosen)) for many in range(length + 1) for chosen in itertools.combinations(inner, many)]


def kept_slowly(edit, cuts):
    """Moment by moment: each piece and each block, whether all its places are among those that the piece keeps."""
    found, told = [], 0
    for piece in edit.pieces():
        many = piece[3] if piece[0] == "keep" else len(piece[1][0])
        if piece[0] == "keep":
            places = list(range(piece[2], piece[2] + piece[3]))
            for block, (low, high) in enumerate(zip(cuts[piece[1]], cuts[piece[1]][1:])):
                if set(range(low, high)) <= set(places):
                    found.append((told + places.index(low), piece[1], block))
        told += many
    return found


def anew_slowly(edit, cuts):
    held = sum(cuts[source][block + 1] - cuts[source][block] for _, source, block in kept_slowly(edit, cuts))
    return sum(piece[3] for piece in edit.pieces() if piece[0] == "keep") - held


def block_price(edits, low, high):
    """How many moments of a block the pieces keep that don't hold it."""
    total = 0
    for edit in edits:
        for piece in edit.pieces():
            if piece[0] == "keep":
                shared = set(range(piece[2], piece[2] + piece[3])) & set(range(low, high))
                total += 0 if len(shared) == high - low else len(shared)
    return total


def all_prices(length, edits, many):
    """The numbers of the point by trying all cuts of all beginnings."""
    found = []
    for most in range(many + 1):
        row = []
        for end in range(length + 1):
            cuts = [one for one in all_cuts(end) if len(one) <= most + 1] if end else [[0]]
            row.append(min([sum(block_price(edits, low, high) for low, high in zip(one, one[1:])) for one in cuts], default=None))
        found.append(row)
    return found


def keeps(length):
    return [("keep", 0, low, high - low) for low in range(length) for high in range(low + 1, length + 1)]


def drawn_edit(drawn, length, most=4):
    pieces = [drawn.item(keeps(length)) if drawn.below(4) and length else ("given", [[1]]) for _ in range(drawn.below(most + 1))]
    return Edit([length], 1, pieces)


class Kept(unittest.TestCase):

    def test_all_small_edits_and_cuts(self):
        for pieces in [[]] + [[one] for one in keeps(4)] + [list(two) for two in itertools.product(keeps(4), repeat=2)]:
            edit = Edit([4], 1, pieces)
            for cuts in all_cuts(4):
                self.assertEqual(kept_blocks(edit, [cuts]), kept_slowly(edit, [cuts]))
                self.assertEqual(anew(edit, [cuts]), anew_slowly(edit, [cuts]))

    def test_drawn_edits_of_several_sources(self):
        drawn = Drawn(105)
        for _ in range(100):
            lengths = [drawn.below(9) for _ in range(drawn.between(1, 4))]
            pieces = []
            for _ in range(drawn.below(8)):
                source = drawn.below(len(lengths))
                if lengths[source]:
                    pieces.append(("keep", source) + drawn.item(keeps(lengths[source]))[2:])
                else:
                    pieces.append(("given", [[1, 2]]))
            edit = Edit(lengths, 1, pieces)
            cuts = [drawn.item(all_cuts(length)) for length in lengths]
            self.assertEqual(kept_blocks(edit, cuts), kept_slowly(edit, cuts))
            self.assertEqual(anew(edit, cuts), anew_slowly(edit, cuts))

    def test_pieces_made_one_hold_what_lies_across(self):
        edit = Edit([6], 1, [("keep", 0, 0, 3), ("keep", 0, 3, 3)])
        self.assertEqual(kept_blocks(edit, [[0, 2, 4, 6]]), [(0, 0, 0), (2, 0, 1), (4, 0, 2)])

    def test_length_0_and_edits_that_keep_nothing(self):
        self.assertEqual((kept_blocks(Edit([0], 1, []), [[0]]), anew(Edit([0], 1, []), [[0]])), ([], 0))
        given = Edit([3, 0], 1, [("given", [[1, 2, 3]])])
        self.assertEqual((kept_blocks(given, [[0, 3], [0]]), anew(given, [[0, 3], [0]])), ([], 0))

    def test_blocks_kept_twice(self):
        edit = Edit([4], 1, [("keep", 0, 2, 2), ("keep", 0, 0, 4), ("keep", 0, 1, 1)])
        self.assertEqual(kept_blocks(edit, [[0, 2, 4]]), [(0, 0, 1), (2, 0, 0), (4, 0, 1)])
        self.assertEqual(anew(edit, [[0, 2, 4]]), 1)

    def test_long_sources_and_many_pieces(self):
        sound = Sound(2, [[0, 1] * 2047])
        edit = trimmed(sound, 0, 1, 0)
        self.assertEqual(len(edit.pieces()), 2047)
        cuts = list(range(4095))
        self.assertEqual(kept_blocks(edit, [cuts]), [(at, 0, 2 * at + 1) for at in range(2047)])
        self.assertEqual((anew(edit, [cuts]), anew(edit, [[0, 4094]])), (0, 2047))


class Best(unittest.TestCase):

    def look(self, length, edits, many):
        cuts, number, prices = best_cuts(length, edits, many)
        self.assertIn(cuts, all_cuts(length) if length else [[0]])
        self.assertLessEqual(len(cuts) - 1, many)
        least = min(sum(anew_slowly(edit, [one]) for edit in edits) for one in (all_cuts(length) if length else [[0]])
                    if len(one) <= many + 1)
        self.assertEqual((number, sum(anew_slowly(edit, [cuts]) for edit in edits)), (least, least))
        self.assertEqual(prices, all_prices(length, edits, many))
        self.assertIs(is_best_cuts(length, edits, many, (cuts, number, prices)), True)

    def test_all_small_edits(self):
        for length in range(4):
            for many in range(min(length, 1), 5):
                for pieces in [[]] + [[one] for one in keeps(length)] + [list(two) for two in itertools.product(keeps(length), repeat=2)]:
                    self.look(length, [Edit([length], 1, pieces)], many)

    def test_drawn_edits(self):
        drawn = Drawn(1050)
        for _ in range(60):
            length = drawn.between(1, 7)
            edits = [drawn_edit(drawn, length) for _ in range(drawn.below(4))]
            self.look(length, edits, drawn.between(1, length + 1))

    def test_length_0(self):
        for many in (0, 1, 60):
            self.assertEqual(best_cuts(0, [Edit([0], 1, [])], many), ([0], 0, [[0]] * (many + 1)))
        self.assertRaises(InvalidNumber, best_cuts, 1, [], 0)
        self.assertRaises(InvalidNumber, best_cuts, 0, [], 61)

    def test_no_edits_one_block_and_as_many_as_places(self):
        self.assertEqual(best_cuts(3, [], 1), ([0, 3], 0, [[0, None, None, None], [0, 0, 0, 0]]))
        edit = Edit([3], 1, [("keep", 0, 0, 1), ("keep", 0, 2, 1)])
        self.assertEqual(best_cuts(3, [edit], 3)[:2], ([0, 1, 2, 3], 0))
        self.assertEqual(best_cuts(3, [edit], 1)[:2], ([0, 3], 2))

    def test_edits_of_other_numbers_of_ways(self):
        edits = [Edit([2], 1, [("keep", 0, 0, 1)]), Edit([2], 2, [("keep", 0, 1, 1), ("given", [[1], [2]])])]
        self.assertEqual(best_cuts(2, edits, 2)[:2], ([0, 1, 2], 0))

    def test_the_judge_takes_any_best_cuts(self):
        edits = [Edit([6], 1, [("keep", 0, 0, 2)]), Edit([6], 1, [("keep", 0, 3, 3)]), Edit([6], 1, [("keep", 0, 1, 4)])]
        for many in range(1, 7):
            _, number, prices = best_cuts(6, edits, many)
            for cuts in all_cuts(6):
                best = len(cuts) <= many + 1 and sum(anew_slowly(edit, [cuts]) for edit in edits) == number
                self.assertIs(is_best_cuts(6, edits, many, (cuts, number, prices)), best)

    def test_bent(self):
        edits = [Edit([4], 1, [("keep", 0, 0, 2)]), Edit([4], 1, [("keep", 0, 1, 3)])]
        cuts, number, prices = best_cuts(4, edits, 2)
        others = [(cuts, number + 1, prices), (cuts, number, prices[:-1]), (cuts, number, prices + prices[-1:]),
                  ([0, 5], number, prices), ([], number, prices), ([0], number, prices), ([4, 0], number, prices)]
        for value in bent((cuts, number, prices)) + others:
            self.assertIs(is_best_cuts(4, edits, 2, value), False, value)


class Limits(unittest.TestCase):

    def test_the_greatest_length(self):
        edit = Edit([4095], 1, [("keep", 0, 7, 300), ("keep", 0, 2000, 9)])
        for edits, cuts in (([], [0, 4095]), ([edit], [0, 7, 307, 2000, 2009, 4095])):
            value = best_cuts(4095, edits, 60)
            self.assertEqual(value[:2], (cuts, 0))
            self.assertTrue(is_best_cuts(4095, edits, 60, value))
        self.assertEqual(best_cuts(4095, [edit], 1)[1], 309)

    def test_lengths_of_60_and_20_edits(self):
        drawn = Drawn(10500)
        edits = []
        for _ in range(20):
            pieces = []
            for _ in range(60):
                first = drawn.below(60)
                pieces.append(("keep", 0, first, drawn.between(1, 60 - first)))
            edits.append(Edit([60], 1, pieces))
        last = None
        for many in (1, 2, 30, 60):
            value = best_cuts(60, edits, many)
            self.assertEqual(value[1], sum(anew(edit, [value[0]]) for edit in edits))
            self.assertTrue(is_best_cuts(60, edits, many, value))
            self.assertTrue(last is None or value[1] <= last)
            last = value[1]
        self.assertEqual(last, 0)


if __name__ == "__main__":
    unittest.main()
