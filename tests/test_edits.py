"""[100] to [102]: edits, what they tell, edits one behind the other, what parts them, and how they are led back."""

import itertools
import unittest

from wholesound.edits import Edit, identity, is_recovery, parted, recovered, then, told
from wholesound.errors import InvalidDepth, InvalidItem, InvalidList, InvalidNumber, InvalidPiece, Unlike
from wholesound.sounds import Sound

from tests.drawn import Drawn
from tests.odd import bent, spoil

PIECES = [("keep", 0, 0, 1), ("keep", 0, 0, 2), ("keep", 0, 1, 1), ("keep", 0, 2, 1), ("keep", 1, 0, 1), ("given", [[0]]),
          ("given", [[5, 0]])]


def small_edits(most):
    return [Edit([3, 1], 1, list(pieces)) for many in range(most + 1) for pieces in itertools.product(PIECES, repeat=many)]


def moments(pieces, ways):
    """For each moment told: its source and place, or the samples given."""
    found = []
    for piece in pieces:
        if piece[0] == "keep":
            found += [(piece[1], piece[2] + at) for at in range(piece[3])]
        else:
            found += [tuple(piece[1][way][at] for way in range(ways)) + ("given",) for at in range(len(piece[1][0]))]
    return found


def drawn_piece(drawn, lengths, ways, loud):
    sources = [at for at, length in enumerate(lengths) if length]
    if not sources or drawn.below(4) == 0:
        many = drawn.between(1, 3)
        return ("given", [drawn.numbers(many, -loud, loud) for _ in range(ways)])
    source = drawn.item(sources)
    first = drawn.below(lengths[source])
    return ("keep", source, first, drawn.between(1, min(lengths[source] - first, 6)))


def drawn_edit(drawn, lengths, ways, most=8, loud=4):
    return Edit(lengths, ways, [drawn_piece(drawn, lengths, ways, loud) for _ in range(drawn.below(most + 1))])


def drawn_sounds(drawn, lengths, ways, depth=4):
    return [Sound(depth, [drawn.samples(length, depth) for _ in range(ways)]) for length in lengths]


class Edits(unittest.TestCase):

    def test_pieces_made_one_over_all_small_lists(self):
        for many in range(4):
            for pieces in itertools.product(PIECES, repeat=many):
                edit = Edit([3, 1], 1, list(pieces))
                wanted = moments(pieces, 1)
                self.assertEqual(moments(edit.pieces(), 1), wanted)
                # No pieces that tell the same are fewer: each begins where nothing can go on.
                begins = [at for at in range(len(wanted)) if at == 0 or not self.goes_on(wanted[at - 1], wanted[at])]
                self.assertEqual(len(edit.pieces()), len(begins))
                self.assertEqual(edit.length(), len(wanted))
                for at, moment in enumerate(wanted):
                    self.assertEqual(edit.came_from(at), None if moment[-1] == "given" else moment)
                self.assertRaises(InvalidNumber, edit.came_from, len(wanted))
                self.assertRaises(InvalidNumber, edit.came_from, -1)
                self.assertRaises(InvalidNumber, edit.came_from, False)

    def goes_on(self, one, other):
        if "given" in (one[-1], other[-1]):
            return one[-1] == other[-1]
        return other == (one[0], one[1] + 1)

    def test_neighbours_that_become_one_and_those_that_do_not(self):
        edit = Edit([9, 9], 2, [("keep", 0, 0, 2), ("keep", 0, 2, 3), ("keep", 1, 5, 1), ("keep", 1, 5, 1), ("keep", 0, 6, 1),
                                ("given", [[1], [2]]), ("given", [[3, 4], [5, 6]]), ("keep", 0, 7, 1), ("keep", 0, 8, 1)])
        self.assertEqual(edit.pieces(), [("keep", 0, 0, 5), ("keep", 1, 5, 1), ("keep", 1, 5, 1), ("keep", 0, 6, 1),
                                         ("given", [[1, 3, 4], [2, 5, 6]]), ("keep", 0, 7, 2)])
        self.assertEqual((edit.lengths(), edit.ways(), edit.length()), ([9, 9], 2, 13))

    def test_equal(self):
        all_edits = small_edits(2)
        for one, other in itertools.product(all_edits, repeat=2):
            self.assertIs(one == other, moments(one.pieces(), 1) == moments(other.pieces(), 1))
        self.assertFalse(Edit([1], 1, []) == Edit([1], 2, []) or Edit([1], 1, []) == Edit([2], 1, []))
        self.assertTrue(Edit([1], 1, []) != [[1], 1, []] and Edit([1], 1, []) != None)

    def test_handed_and_returned_lists_change_nothing(self):
        lengths, rows = [4, 2], [[7, 8]]
        pieces = [("keep", 0, 0, 2), ("given", rows)]
        edit = Edit(lengths, 1, pieces)
        for one in (lengths, pieces, edit.lengths(), edit.pieces()):
            spoil(one)
        self.assertEqual((edit.lengths(), edit.pieces()), ([4, 2], [("keep", 0, 0, 2), ("given", [[7, 8]])]))

    def test_60_pieces_and_4095_moments(self):
        apart = [("keep", 0, 0, 1), ("keep", 0, 2, 1)] * 30
        self.assertEqual(len(Edit([4], 1, apart).pieces()), 60)
        alike = [("given", [[1]])] * 60
        self.assertEqual(len(Edit([4], 1, alike).pieces()), 1)
        for pieces in (apart + apart[:1], alike + alike[:1]):
            with self.assertRaises(InvalidList) as caught:
                Edit([4], 1, pieces)
            self.assertIs(caught.exception.value, pieces)
        full = [("keep", 0, 0, 4000), ("given", [[0] * 95])]
        self.assertEqual(Edit([4095], 1, full).length(), 4095)
        for more in (("given", [[1]]), ("keep", 0, 5, 1)):
            with self.assertRaises(InvalidList) as caught:
                Edit([4095], 1, full + [more])
            self.assertEqual(caught.exception.value, full + [more])
            with self.assertRaises(InvalidPiece) as caught:
                Edit([4095], 1, full + [more, None])
            self.assertIsNone(caught.exception.value)

    def test_given_samples_of_the_greatest_depth(self):
        edit = Edit([0], 1, [("given", [[2 ** 23 - 1, -2 ** 23]])])
        self.assertEqual(told(edit, [Sound(24, [[]])]).ways(), [[2 ** 23 - 1, -2 ** 23]])
        with self.assertRaises(InvalidDepth) as caught:
            told(edit, [Sound(23, [[]])])
        self.assertEqual(caught.exception.value, 23)


class Told(unittest.TestCase):

    def test_moment_by_moment(self):
        drawn = Drawn(100)
        for _ in range(150):
            lengths = [drawn.below(7) for _ in range(drawn.between(1, 8))]
            ways = drawn.between(1, 4)
            edit = drawn_edit(drawn, lengths, ways)
            sounds = drawn_sounds(drawn, lengths, ways)
            told_moments = list(zip(*told(edit, sounds).ways()))
            wanted = []
            for at, moment in enumerate(moments(edit.pieces(), ways)):
                came = edit.came_from(at)
                wanted.append(moment[:-1] if came is None else tuple(way[came[1]] for way in sounds[came[0]].ways()))
            self.assertEqual(told_moments, wanted)
            self.assertEqual((told(edit, sounds).depth(), told(edit, sounds).many()), (4, edit.length()))

    def test_8_sources_and_those_without_moments(self):
        sounds = [Sound(4, [[at] * (at % 3)]) for at in range(8)]
        edit = Edit([0, 1, 2, 0, 1, 2, 0, 1], 1, [("keep", 7, 0, 1), ("keep", 5, 0, 2), ("keep", 1, 0, 1)])
        self.assertEqual(told(edit, sounds).ways(), [[7, 5, 5, 1]])
        self.assertEqual(told(Edit([0] * 8, 2, []), [Sound(3, [[], []])] * 8), Sound(3, [[], []]))

    def test_edits_without_pieces(self):
        self.assertEqual(told(Edit([3], 1, []), [Sound(4, [[1, 2, 3]])]), Sound(4, [[]]))

    def test_of_wrong_sounds_the_first(self):
        edit, good = Edit([1, 1, 1], 1, []), Sound(4, [[1]])
        long, deep, wide = Sound(4, [[1, 2]]), Sound(5, [[1]]), Sound(4, [[1], [1]])
        for sounds, kind, value in (([good, deep, long], InvalidItem, long), ([good, deep, Sound(6, [[1]])], Unlike, deep),
                                    ([good, wide, None], InvalidItem, wide), ([deep, good, deep], Unlike, good),
                                    ([None, good, long], InvalidItem, None)):
            with self.assertRaises(kind) as caught:
                told(edit, sounds)
            self.assertIs(caught.exception.value, value)


class Then(unittest.TestCase):

    def test_all_small_ones(self):
        sounds = [Sound(4, [[1, 2, 3]]), Sound(4, [[-4]])]
        for first in small_edits(2):
            heard = told(first, sounds)
            for pieces in self.keeps(first.length()):
                second = Edit([first.length()], 1, pieces)
                both = then(first, second)
                self.assertEqual((both.lengths(), both.ways()), ([3, 1], 1))
                self.assertEqual(told(both, sounds), told(second, [heard]))
                spread = moments(first.pieces(), 1)
                self.assertEqual(moments(both.pieces(), 1), [moment if moment[-1] == "given" else spread[moment[1]]
                                                             for moment in moments(second.pieces(), 1)])
                self.assertEqual(both, Edit([3, 1], 1, both.pieces()))

    def keeps(self, length):
        ones = [("keep", 0, low, high - low) for low in range(length) for high in range(low + 1, length + 1)]
        ones.append(("given", [[7]]))
        return [list(pieces) for many in range(3) for pieces in itertools.product(ones[-4:], repeat=many)] + [ones[:4]]

    def test_identity_and_one_behind_another(self):
        drawn = Drawn(101)
        for _ in range(80):
            lengths, ways = [drawn.below(9) for _ in range(3)], drawn.between(1, 3)
            first = drawn_edit(drawn, lengths, ways)
            second = drawn_edit(drawn, [first.length()], ways)
            third = drawn_edit(drawn, [second.length()], ways)
            self.assertEqual(then(first, identity(first.length(), ways)), first)
            self.assertEqual(then(identity(first.length(), ways), second), second)
            self.assertEqual(then(then(first, second), third), then(first, then(second, third)))
            sounds = drawn_sounds(drawn, lengths, ways)
            self.assertEqual(told(then(first, second), sounds), told(second, [told(first, sounds)]))

    def test_identity(self):
        self.assertEqual(identity(0, 3), Edit([0], 3, []))
        self.assertEqual(identity(4095, 1).pieces(), [("keep", 0, 0, 4095)])

    def test_more_than_60_pieces_are_returned_but_not_taken(self):
        first = Edit([4], 1, [("keep", 0, 0, 1), ("keep", 0, 2, 1)] * 30)
        second = Edit([60], 1, [("keep", 0, 0, 60)] * 60)
        both = then(first, second)
        self.assertEqual((both.length(), len(both.pieces())), (3600, 3600))
        self.assertRaises(InvalidList, Edit, [4], 1, both.pieces())
        self.assertEqual(then(both, identity(3600, 1)), both)
        self.assertEqual(told(both, [Sound(4, [[1, 2, 3, 4]])]).way(0), [1, 3] * 1800)
        self.assertEqual(recovered(both, 0), ("lost", [1, 3]))
        self.assertIsNone(parted(both, then(both, identity(3600, 1))))
        self.assertEqual(both.came_from(3599), (0, 2))


class Parted(unittest.TestCase):

    def look(self, one, other):
        sounds = parted(one, other)
        if one == other:
            self.assertIsNone(sounds)
            return
        self.assertEqual([sound.many() for sound in sounds], one.lengths())
        self.assertTrue(all(sound.depth() == 24 and len(sound.ways()) == one.ways() for sound in sounds))
        ones = [sample for sound in sounds for sample in sound.way(0) if sample]
        self.assertIn(ones, ([], [1]))
        self.assertFalse(any(sample for sound in sounds for way in sound.ways()[1:] for sample in way))
        self.assertNotEqual(told(one, sounds), told(other, sounds))

    def test_all_small_ones(self):
        all_edits = small_edits(2)
        for one, other in itertools.product(all_edits, repeat=2):
            self.look(one, other)

    def test_drawn_ones(self):
        drawn = Drawn(102)
        for _ in range(200):
            lengths, ways = [drawn.below(4) for _ in range(drawn.between(1, 3))], drawn.between(1, 2)
            one = drawn_edit(drawn, lengths, ways, 4, 1)
            pieces = one.pieces()
            if pieces and drawn.below(2):
                pieces[drawn.below(len(pieces))] = drawn_piece(drawn, lengths, ways, 1)
            self.look(one, Edit(lengths, ways, pieces))
            self.look(one, drawn_edit(drawn, lengths, ways, 4, 1))

    def test_given_noughts_and_other_ways(self):
        kept = Edit([2], 2, [("keep", 0, 0, 2)])
        for rows in ([[0, 0], [0, 0]], [[0, 0], [0, 1]], [[1, 0], [0, 0]]):
            self.look(kept, Edit([2], 2, [("given", rows)]))
            self.look(Edit([2], 2, [("given", rows)]), kept)
        self.look(Edit([2], 2, [("given", [[0], [1]])]), Edit([2], 2, [("given", [[0], [0]])]))


def back_pieces(edit, source):
    """The fewest pieces that lead back to a source, by trying all, None if there are none."""
    length, spread = edit.lengths()[source], moments(edit.pieces(), edit.ways())
    best = [0] + [None] * length
    for place in range(length):
        if best[place] is None:
            continue
        for at in range(len(spread)):
            many = 0
            while at + many < len(spread) and place + many < length and spread[at + many] == (source, place + many):
                many += 1
                if best[place + many] is None or best[place] + 1 < best[place + many]:
                    best[place + many] = best[place] + 1
    return best[length]


class Recovered(unittest.TestCase):

    def look(self, edit, source):
        value, length = recovered(edit, source), edit.lengths()[source]
        self.assertTrue(is_recovery(edit, source, value))
        stand = [place for place in range(length) if (source, place) in moments(edit.pieces(), edit.ways())]
        fewest = back_pieces(edit, source)
        if fewest is None:
            self.assertEqual(value, ("lost", [place for place in range(length) if place not in stand]))
            return value
        kind, back, places = value
        whole = Edit(edit.lengths(), edit.ways(), [("keep", source, 0, length)] if length else [])
        self.assertEqual((kind, then(edit, back)), ("whole", whole))
        self.assertEqual((len(back.pieces()), len(places)), (fewest, fewest))
        self.assertEqual(sorted(set(places)), places)
        runs = [range(piece[2], piece[2] + piece[3]) for piece in edit.pieces() if piece[:2] == ("keep", source)]
        self.assertFalse(any(one in run and other in run for run in runs for one, other in itertools.combinations(places, 2)))
        return value

    def test_all_small_edits(self):
        kinds = [self.look(edit, source)[0] for edit in small_edits(3) for source in (0, 1)]
        self.assertEqual(set(kinds), {"lost", "whole"})

    def test_drawn_edits(self):
        drawn = Drawn(1020)
        whole = 0
        for _ in range(150):
            lengths = [drawn.between(1, 8), drawn.below(4)]
            edit = drawn_edit(drawn, lengths, 1, 20)
            whole += self.look(edit, 0)[0] == "whole"
            self.look(edit, 1)
        self.assertGreater(whole, 20)

    def test_sources_without_moments(self):
        edit = Edit([0, 2], 2, [("keep", 1, 0, 2)])
        self.assertEqual(recovered(edit, 0), ("whole", Edit([2], 2, []), []))
        self.assertEqual(recovered(Edit([0], 1, []), 0), ("whole", Edit([0], 1, []), []))
        self.assertTrue(is_recovery(edit, 0, ("whole", Edit([2], 2, []), [])))

    def test_any_way_back_with_the_fewest_pieces_is_taken(self):
        edit = Edit([4], 1, [("keep", 0, 0, 3), ("keep", 0, 1, 3)])
        for many in (1, 2, 3):
            back = Edit([6], 1, [("keep", 0, 0, many), ("keep", 0, 2 + many, 4 - many)])
            for places in ([0, 3], [0, 2], [1, 3], [0, 0], [3, 0], [0], [0, 1, 3], [0, 4], [-1, 3]):
                self.assertIs(is_recovery(edit, 0, ("whole", back, places)), places == [0, 3], (many, places))
        long = [("keep", 0, 0, 1), ("keep", 0, 3, 1), ("keep", 0, 2, 1), ("keep", 0, 5, 1)]
        for back in (Edit([6], 1, [("keep", 0, 0, 3), ("keep", 0, 4, 1)]), Edit([6], 1, long), Edit([7], 1, [("keep", 0, 0, 1), ("keep", 0, 3, 3)]), Edit([6], 2, [("keep", 0, 0, 1), ("keep", 0, 3, 3)]),
                     Edit([6, 1], 1, [("keep", 0, 0, 1), ("keep", 0, 3, 3)])):
            self.assertIs(is_recovery(edit, 0, ("whole", back, [0, 3])), False)

    def test_more_pieces_than_places_are_refused(self):
        edit = Edit([2], 1, [("keep", 0, 0, 2), ("keep", 0, 0, 1)])
        slow = Edit([3], 1, [("keep", 0, 2, 1), ("keep", 0, 1, 1)])
        self.assertEqual(then(edit, slow), identity(2, 1))
        for places in ([0], [0, 1]):
            self.assertIs(is_recovery(edit, 0, ("whole", slow, places)), False)

    def test_bent(self):
        edit = Edit([4, 2], 1, [("keep", 0, 0, 3), ("keep", 0, 1, 3)])
        for source in (0, 1):
            value = recovered(edit, source)
            for other in bent(value) + [value[:1], ("lost", []), ("lost", [0]), ("lost", [1, 0]), ("whole", value[1], [])]:
                self.assertIs(is_recovery(edit, source, other), False, other)


class Limits(unittest.TestCase):

    def test_60_pieces_of_8_sources_of_4095_moments(self):
        drawn = Drawn(10200)
        lengths = [4095] * 8
        pieces = [("keep", drawn.below(8), drawn.below(4000), drawn.between(1, 68)) for _ in range(58)]
        edit = Edit(lengths, 4, pieces + [("given", [[7] * 60] * 4)])
        sounds = drawn_sounds(drawn, lengths, 4)
        heard = told(edit, sounds)
        second = Edit([edit.length()], 4, [("keep", 0, at, 60) for at in range(edit.length() - 60, 0, -60)])
        self.assertEqual(told(then(edit, second), sounds), told(second, [heard]))
        self.assertIsNotNone(parted(edit, Edit(lengths, 4, edit.pieces()[:-1])))
        for source in range(8):
            self.assertTrue(is_recovery(edit, source, recovered(edit, source)))
        whole = Edit([4095], 4, [("keep", 0, at, min(70, 4095 - at)) for at in range(4060, -70, -70)])
        kind, back, places = recovered(whole, 0)
        self.assertEqual((kind, len(back.pieces())), ("whole", 59))
        self.assertEqual(len(places), 59)
        self.assertEqual(then(whole, back), identity(4095, 4))
        self.assertTrue(is_recovery(whole, 0, (kind, back, places)))


if __name__ == "__main__":
    unittest.main()
