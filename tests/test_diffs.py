"""[103], [104]: a sound told of older ones by the fewest pieces, or by the least price."""

import itertools
import unittest

from wholesound.diffs import fewest, is_fewest, is_least_edit, least_edit
from wholesound.edits import Edit, told
from wholesound.errors import InvalidNumber
from wholesound.sounds import Sound

from tests.drawn import Drawn
from tests.odd import bent


def moments(sound):
    return list(zip(*sound.ways()))


def stands(olds, part):
    """Whether moments stand in one of the old sounds in a row."""
    return any(part == moments(old)[at:at + len(part)] for old in olds for at in range(old.many() - len(part) + 1))


def fewest_pieces(olds, new):
    """The fewest pieces that keep, by trying all stretches; None if there are none."""
    wanted = moments(new)
    best = [0] + [None] * len(wanted)
    for end in range(1, len(wanted) + 1):
        counts = [best[at] + 1 for at in range(end) if best[at] is not None and stands(olds, wanted[at:end])]
        best[end] = min(counts, default=None)
    return best[-1]


def least_price(olds, new, one, each):
    """The least price of all edits, by trying all ways to cut the new sound and to give or keep each part."""
    wanted = moments(new)
    best = [0]
    for end in range(1, len(wanted) + 1):
        best.append(min(best[at] + one + (0 if stands(olds, wanted[at:end]) else each * (end - at)) for at in range(end)))
    return best[-1]


def is_told_by_fewest(olds, new, value):
    """The words of [103], for values of the right kinds."""
    wanted = moments(new)
    never = next((at for at, moment in enumerate(wanted) if not stands(olds, [moment])), None)
    if never is not None:
        return value == ("never", never)
    if value[0] != "pieces":
        return False
    _, edit, stretches = value
    if edit.lengths() != [old.many() for old in olds] or edit.ways() != len(new.ways()):
        return False
    if any(piece[0] == "given" for piece in edit.pieces()) or told(edit, olds) != new:
        return False
    if len(stretches) != max(len(edit.pieces()) - 1, 0):
        return False
    for (first, many), ahead in zip(stretches, [None] + stretches):
        if not 0 <= first < first + many <= len(wanted) or stands(olds, wanted[first:first + many]):
            return False
        if ahead is not None and first < ahead[0] + ahead[1] - 1:
            return False
    return True


def is_told_for_least(olds, new, one, each, value):
    """The words of [104], for values of the right kinds."""
    edit, price, prices = value
    wanted = moments(new)
    if edit.lengths() != [old.many() for old in olds] or edit.ways() != len(new.ways()) or told(edit, olds) != new:
        return False
    given = sum(len(piece[1][0]) for piece in edit.pieces() if piece[0] == "given")
    if price != one * len(edit.pieces()) + each * given or price != least_price(olds, new, one, each):
        return False
    if len(prices) != len(wanted) + 1 or prices[0] != 0 or prices[-1] != price:
        return False
    for at, end in itertools.combinations(range(len(prices)), 2):
        bound = one if stands(olds, wanted[at:end]) else one + each * (end - at)
        if prices[end] - prices[at] > bound:
            return False
    return True


def rows(many, low=0, high=1):
    return [list(row) for count in range(many + 1) for row in itertools.product(range(low, high + 1), repeat=count)]


def drawn_pair(drawn, ways=1, loud=1):
    olds = [Sound(4, [drawn.numbers(many, -loud, loud) for _ in range(ways)])
            for many in drawn.numbers(drawn.between(1, 4), 0, 9)]
    return olds, Sound(4, [drawn.numbers(9, -loud, loud) for _ in range(ways)])


class Fewest(unittest.TestCase):

    def look(self, olds, new):
        value = fewest(olds, new)
        self.assertTrue(is_told_by_fewest(olds, new, value), value)
        self.assertIs(is_fewest(olds, new, value), True)
        if value[0] == "pieces":
            self.assertEqual(len(value[1].pieces()), fewest_pieces(olds, new))
        else:
            self.assertIsNone(fewest_pieces(olds, new))

    def test_all_small_sounds(self):
        for old in rows(3):
            for new in rows(4):
                self.look([Sound(3, [old])], Sound(3, [new]))

    def test_two_old_sounds(self):
        for one, other in itertools.product(rows(2), repeat=2):
            for new in rows(4):
                self.look([Sound(3, [one]), Sound(3, [other])], Sound(3, [new]))

    def test_drawn_sounds_of_several_ways(self):
        drawn = Drawn(103)
        kinds = []
        for _ in range(150):
            olds, new = drawn_pair(drawn, drawn.between(1, 2))
            self.look(olds, new)
            kinds.append(fewest(olds, new)[0])
        self.assertEqual(set(kinds), {"never", "pieces"})

    def test_old_and_new_sounds_without_moments(self):
        none, some = Sound(3, [[]]), Sound(3, [[1]])
        self.assertEqual(fewest([none], none), ("pieces", Edit([0], 1, []), []))
        self.assertEqual(fewest([some, none], none), ("pieces", Edit([1, 0], 1, []), []))
        self.assertEqual(fewest([none] * 8, some), ("never", 0))

    def test_a_moment_is_all_ways_at_one_place(self):
        old = Sound(3, [[0, 1], [0, 1]])
        self.assertEqual(fewest([old], Sound(3, [[0, 1, 1], [0, 1, 0]])), ("never", 2))

    def test_the_judge_over_small_values(self):
        olds, new = [Sound(3, [[0, 1, 1, 0]]), Sound(3, [[1, 0, 1]])], Sound(3, [[1, 0, 1, 1, 1]])
        keeps = [("keep", source, first, many) for source, length in ((0, 4), (1, 3)) for first in range(length)
                 for many in range(1, length - first + 1)]
        told_by = [list(pieces) for many in (1, 2, 3) for pieces in itertools.product(keeps, repeat=many)
                   if sum(piece[3] for piece in pieces) == 5]
        right = [Edit([4, 3], 1, pieces) for pieces in told_by]
        right = [edit for edit in right if told(edit, olds) == new]
        stretches = list(itertools.product(range(-1, 6), range(0, 6)))
        taken = 0
        for edit in right[:6]:
            for many in (0, 1, 2):
                for chosen in itertools.product(stretches if many < 2 else stretches[7:34], repeat=many):
                    value = ("pieces", edit, list(chosen))
                    self.assertIs(is_fewest(olds, new, value), is_told_by_fewest(olds, new, value), chosen)
                    taken += is_fewest(olds, new, value)
        self.assertGreater(taken, 0)

    def test_edits_that_tell_something_else(self):
        olds, new = [Sound(3, [[0, 1, 1, 0]])], Sound(3, [[1, 0, 1, 1, 1]])
        value = fewest(olds, new)
        pieces = value[1].pieces()
        for edit in (Edit([4], 1, pieces[:-1]), Edit([4], 1, pieces[:-1] + [("given", [[1]])]), Edit([5], 1, pieces),
                     Edit([4, 0], 1, pieces), Edit([4], 2, pieces), Edit([4], 1, pieces[::-1]),
                     Edit([4], 1, [("keep", 0, 2, 1), ("keep", 0, 0, 2), ("keep", 0, 1, 1), ("keep", 0, 1, 1)])):
            for many in range(4):
                self.assertIs(is_fewest(olds, new, ("pieces", edit, [(0, 3), (2, 3), (2, 3)][:many])), False)

    def test_bent(self):
        olds, new = [Sound(3, [[0, 1, 1, 0]])], Sound(3, [[1, 0, 1, 1, 1]])
        for value in bent(fewest(olds, new)) + [("never", 0), ("never", None), ("never",)]:
            self.assertIs(is_fewest(olds, new, value), False, value)
        for value in bent(("never", 1)) + [("never", 0), ("never", 2), fewest(olds, new)]:
            self.assertIs(is_fewest(olds, Sound(3, [[1, 2, 2]]), value), False, value)


class Least(unittest.TestCase):

    def look(self, olds, new, one, each):
        value = least_edit(olds, new, one, each)
        self.assertTrue(is_told_for_least(olds, new, one, each, value), value)
        self.assertIs(is_least_edit(olds, new, one, each, value), True)

    def test_all_small_sounds(self):
        for old in rows(3):
            for new in rows(4, 0, 1) + [[0, 2], [2, 2, 2], [1, 2, 1, 0], [2, 0, 1, 2]]:
                for one, each in ((1, 1), (2, 1), (1, 3)):
                    self.look([Sound(3, [old])], Sound(3, [new]), one, each)

    def test_drawn_sounds(self):
        drawn = Drawn(104)
        for _ in range(100):
            olds, new = drawn_pair(drawn, drawn.between(1, 2), drawn.item([1, 2, 7]))
            for one, each in ((1, 1), (10 ** 6, 1), (1, 10 ** 6), (10 ** 6, 10 ** 6), (drawn.between(1, 9), drawn.between(1, 9))):
                self.look(olds, new, one, each)

    def test_no_edit_is_cheaper(self):
        # All edits of few pieces, whatever they give.
        olds, new = [Sound(3, [[0, 1, 1]])], Sound(3, [[1, 1, 0, 2, 0]])
        pieces = [("keep", 0, first, many) for first in range(3) for many in range(1, 4 - first)]
        pieces += [("given", [part]) for part in ([0], [2], [1], [0, 2], [2, 0], [1, 1], [0, 2, 0])]
        for one, each in ((1, 1), (3, 1), (1, 5)):
            price = least_edit(olds, new, one, each)[1]
            for many in range(1, 5):
                for chosen in itertools.product(pieces, repeat=many):
                    if sum(piece[3] if piece[0] == "keep" else len(piece[1][0]) for piece in chosen) == 5:
                        edit = Edit([3], 1, list(chosen))
                        if told(edit, olds) == new:
                            given = sum(len(piece[1][0]) for piece in edit.pieces() if piece[0] == "given")
                            self.assertLessEqual(price, one * len(edit.pieces()) + each * given)

    def test_sounds_without_moments(self):
        none, some = Sound(3, [[]]), Sound(3, [[1, 1]])
        self.assertEqual(least_edit([some], none, 5, 5), (Edit([2], 1, []), 0, [0]))
        self.assertEqual(least_edit([none], some, 5, 4)[:2], (Edit([0], 1, [("given", [[1, 1]])]), 13))

    def test_prices_of_one_and_of_10_to_the_6(self):
        olds, new = [Sound(3, [[0, 1]])], Sound(3, [[2, 0, 1, 2]])
        self.assertEqual(least_edit(olds, new, 10 ** 6, 1)[:2], (Edit([2], 1, [("given", [[2, 0, 1, 2]])]), 1000004))
        self.assertEqual(least_edit(olds, new, 1, 10 ** 6)[1], 2000003)
        for one, each in ((0, 1), (1, 0), (10 ** 6 + 1, 1), (1, 10 ** 6 + 1), (True, 1)):
            self.assertRaises(InvalidNumber, least_edit, olds, new, one, each)

    def test_the_judge_over_all_small_prices(self):
        olds, new = [Sound(3, [[0, 1]])], Sound(3, [[1, 0, 1]])
        edits = [least_edit(olds, new, 2, 1)[0], Edit([2], 1, [("given", [[1, 0, 1]])]), Edit([2], 1, [("keep", 0, 1, 1)])]
        taken = 0
        for edit in edits:
            for price in range(3, 7):
                for prices in itertools.product(range(-1, 6), repeat=4):
                    value = (edit, price, list(prices))
                    self.assertIs(is_least_edit(olds, new, 2, 1, value), is_told_for_least(olds, new, 2, 1, value), prices)
                    taken += is_least_edit(olds, new, 2, 1, value)
        self.assertGreater(taken, 1)

    def test_bent(self):
        olds, new = [Sound(3, [[0, 1, 1, 0]])], Sound(3, [[1, 0, 2, 1, 1]])
        value = least_edit(olds, new, 2, 1)
        loud = Edit([4], 1, [("given", [[1, 0, 2, 1, 9]])])
        for other in bent(value) + [value[:2], (loud, value[1], value[2]), (value[0], value[1] + 1, value[2])]:
            self.assertIs(is_least_edit(olds, new, 2, 1, other), False, other)


class Limits(unittest.TestCase):

    def test_400_moments(self):
        drawn = Drawn(1030)
        for loud in (0, 1, 3):
            olds = [Sound(4, [drawn.numbers(25, -loud, loud)]) for _ in range(8)]
            new = Sound(4, [[drawn.item(olds).way(0)[drawn.below(25)] for _ in range(200)]])
            value = fewest(olds, new)
            self.assertTrue(is_fewest(olds, new, value))
        self.assertGreater(len(value[1].pieces()), 60)
        same = Sound(4, [[0] * 200])
        self.assertEqual(fewest([same], same), ("pieces", Edit([200], 1, [("keep", 0, 0, 200)]), []))

    def test_60_moments_of_120(self):
        drawn = Drawn(1040)
        for loud in (0, 1, 7):
            olds = [Sound(4, [drawn.numbers(15, -loud, loud)] * 4) for _ in range(8)]
            new = Sound(4, [drawn.numbers(60, -loud, loud)] * 4)
            for one, each in ((1, 1), (9, 4), (10 ** 6, 1)):
                value = least_edit(olds, new, one, each)
                self.assertTrue(is_least_edit(olds, new, one, each, value))


if __name__ == "__main__":
    unittest.main()
