"""[45] to [48]: folds written and read, cuts with papers, gains of cuts, and halves."""

import itertools
import time
import unittest

from wholesound.stretches import both_read, gain_rows, greatest_gain, halves, how_many_cuts, is_cuts_paper, least_cuts
from wholesound.stretches import least_half, never_pays, read_folds, readings, turned_reading, written

from tests.drawn import Drawn


def word_of(fold, width):
    """The bits of a fold, as the document tells them."""
    low = bin(fold % 2 ** width)[2:].rjust(width, "0") if width else ""
    return "1" * (fold // 2 ** width) + "0" + low


def words_of(folds, width):
    return "".join(word_of(fold, width) for fold in folds)


def price_of(folds, width):
    return sum(fold // 2 ** width + 1 + width for fold in folds)


def least_of(folds):
    return min(price_of(folds, width) for width in range(45)) if folds else 0


def ends_of(bits, width):
    """All places behind which a fold ends, sign by sign."""
    ends, place = [], 0
    while True:
        at = place
        while at < len(bits) and bits[at] == "1":
            at += 1
        if at + 1 + width > len(bits):
            return ends
        place = at + 1 + width
        ends.append(place)


def all_bits(most):
    for many in range(most + 1):
        for signs in itertools.product("01", repeat=many):
            yield "".join(signs)


class Written(unittest.TestCase):

    def test_by_its_words(self):
        for width in range(5):
            for folds in itertools.product(range(6), repeat=3):
                self.assertEqual(written(list(folds), width), words_of(folds, width))
        self.assertEqual([written([], 0), written([], 120), written([0], 0), written([0], 3), written([5], 1)],
                         ["", "", "0", "0000", "1101"])
        self.assertEqual(written([0, 1], 120), "0" * 121 + "0" * 120 + "1")
        drawn = Drawn(450)
        for _ in range(60):
            width = drawn.below(40)
            folds = drawn.numbers(drawn.below(12), 0, 2 ** (width + 5))
            self.assertEqual(written(folds, width), words_of(folds, width))
            self.assertEqual(len(written(folds, width)), price_of(folds, width))

    def test_what_is_written_is_read_with_the_bits_behind(self):
        drawn = Drawn(451)
        for _ in range(120):
            width = drawn.below(12)
            folds = drawn.numbers(drawn.below(9), 0, 2 ** (width + 3))
            more = "".join(drawn.item("01") for _ in range(drawn.below(9)))
            self.assertEqual(read_folds(written(folds, width) + more, width, len(folds)), (folds, more))

    def test_all_short_bits_are_read(self):
        for bits in all_bits(9):
            for width in range(4):
                ends = ends_of(bits, width)
                for many in range(len(ends) + 3):
                    told = read_folds(bits, width, many)
                    if many > len(ends):
                        self.assertIsNone(told)
                    else:
                        folds, rest = told
                        self.assertEqual((len(folds), words_of(folds, width) + rest), (many, bits))

    def test_bits_that_end_within_a_fold(self):
        self.assertEqual(read_folds("", 0, 0), ([], ""))
        self.assertEqual(read_folds("", 120, 0), ([], ""))
        self.assertEqual(read_folds("1", 0, 0), ([], "1"))
        for bits, width in (("", 0), ("1", 0), ("111", 5), ("0", 1), ("1101", 2), ("0" * 120, 120)):
            self.assertIsNone(read_folds(bits, width, 1))
            self.assertIsNone(read_folds(bits, width, 10 ** 29))
        self.assertEqual(read_folds("0" * 121, 120, 1), ([0], ""))

    def test_readings_by_all_folds(self):
        told = {}
        for width in range(5):
            for many in range(9):
                for folds in itertools.product(range(3 if width < 2 else 9), repeat=min(many, 3)):
                    told.setdefault(words_of(folds, width), {}).setdefault(width, list(folds))
        for bits in all_bits(8):
            got = readings(bits, 4)
            self.assertEqual([width for width, _ in got], sorted(width for width, _ in got))
            for width, folds in got:
                self.assertEqual(words_of(folds, width), bits)
            for width in range(5):
                whole = ([0] + ends_of(bits, width))[-1] == len(bits)
                self.assertEqual(width in [one for one, _ in got], whole)
                if width in told.get(bits, {}):
                    self.assertIn((width, told[bits][width]), got)
            for most in range(4):
                self.assertEqual(readings(bits, most), [one for one in got if one[0] <= most])

    def test_readings_at_the_edges(self):
        self.assertEqual(readings("", 2), [(0, []), (1, []), (2, [])])
        self.assertEqual(readings("", 0), [(0, [])])
        self.assertEqual(readings("1", 120), [])
        self.assertEqual(readings("000000", 5), [(0, [0] * 6), (1, [0] * 3), (2, [0] * 2), (5, [0])])
        self.assertEqual(readings("0" * 121, 120)[-1], (120, [0]))


class BothRead(unittest.TestCase):

    def test_over_all_short_bits(self):
        whole = {}
        for bits in all_bits(13):
            for width in range(6):
                if bits and ends_of(bits, width) and ends_of(bits, width)[-1] == len(bits):
                    whole.setdefault(width, []).append(bits)
        for one, other in itertools.product(range(6), repeat=2):
            others = set(whole[other])
            both = [bits for bits in whole[one] if bits in others]
            bits, folds, more = both_read(one, other)
            if both:
                self.assertEqual(bits, min(both, key=lambda row: (len(row), row)))
            else:
                self.assertGreater(len(bits), 13)
            self.assertEqual((words_of(folds, one), words_of(more, other)), (bits, bits))

    def test_great_widths(self):
        for one, other in ((24, 24), (24, 23), (23, 24), (0, 24), (24, 0), (17, 23), (22, 11), (120, 120), (0, 120)):
            bits, folds, others = both_read(one, other)
            self.assertNotEqual(bits, "")
            self.assertEqual((words_of(folds, one), words_of(others, other)), (bits, bits))
            if one == other:
                self.assertEqual(bits, "0" * (one + 1))


class Turned(unittest.TestCase):

    def check(self, folds, width):
        bits = words_of(folds, width)
        for at in range(len(bits)):
            turned = bits[:at] + ("1" if bits[at] == "0" else "0") + bits[at + 1:]
            read, rest, place = turned_reading(folds, width, at)
            self.assertEqual(words_of(read, width) + rest, turned)
            self.assertEqual(ends_of(rest, width), [])
            both = [end for end in ends_of(bits, width) if end > at and end in ends_of(turned, width)]
            self.assertEqual(place, min(both) if both else None)

    def test_over_all_places(self):
        for width in range(4):
            for many in range(1, 4):
                for folds in itertools.product(range(5), repeat=many):
                    self.check(list(folds), width)
        drawn = Drawn(452)
        for _ in range(25):
            width = drawn.below(8)
            self.check(drawn.numbers(drawn.between(1, 10), 0, 2 ** (width + 2)), width)

    def test_edges(self):
        self.assertEqual(turned_reading([0], 0, 0), ([], "1", None))
        self.assertEqual(turned_reading([1], 0, 0), ([0, 0], "", 2))
        self.assertEqual(turned_reading([1], 0, 1), ([], "11", None))
        self.assertEqual(turned_reading([0], 1, 1), ([1], "", 2))
        self.assertEqual(turned_reading([0, 0], 1, 0), ([2], "0", None))


def cuts_of(many, few):
    """All lists of lengths of at least `few` that add up."""
    if many == 0:
        return [[]]
    return [[first] + rest for first in range(few, many + 1) for rest in cuts_of(many - first, few)]


def stretch_cost(folds, cost, bits):
    told = least_of(folds)
    if bits is not None and all(fold < 2 ** bits for fold in folds):
        told = min(told, bits * len(folds))
    return cost + told


def cost_of(folds, lengths, cost, bits):
    total, low = 0, 0
    for length in lengths:
        total += stretch_cost(folds[low:low + length], cost, bits)
        low += length
    return total


def is_paper(folds, few, cost, bits, value):
    """The judge, as the document tells it."""
    total, cuts, prices = value
    low = 0
    whole = 0
    for length, width in cuts:
        stretch = folds[low:low + length]
        if length < few or len(stretch) != length:
            return False
        if width is None:
            if bits is None or any(fold >= 2 ** bits for fold in stretch):
                return False
            whole += cost + bits * length
        else:
            if not 0 <= width <= 120:
                return False
            whole += cost + price_of(stretch, width)
        low += length
    if low != len(folds) or whole != total or len(prices) != len(folds) + 1 or prices[-1] - prices[0] != total:
        return False
    return all(prices[end] - prices[begin] <= stretch_cost(folds[begin:end], cost, bits)
               for begin in range(len(folds) + 1) for end in range(begin + few, len(folds) + 1))


class Cuts(unittest.TestCase):

    def check(self, folds, few, cost, bits):
        told = least_cuts(folds, few, cost, bits)
        lists = cuts_of(len(folds), few)
        costs = [cost_of(folds, lengths, cost, bits) for lengths in lists]
        if not lists:
            self.assertIsNone(told)
            self.assertEqual(how_many_cuts(folds, few, cost, bits), 0)
            return
        self.assertEqual(told[0], min(costs))
        self.assertTrue(is_paper(folds, few, cost, bits, told))
        self.assertTrue(is_cuts_paper(folds, few, cost, bits, told))
        self.assertEqual(how_many_cuts(folds, few, cost, bits), costs.count(min(costs)))

    def test_over_all_cuts(self):
        for many in range(5):
            for folds in itertools.product((0, 1, 3, 8), repeat=many):
                for few, cost, bits in ((1, 2, None), (2, 0, 2), (1, 3, 1), (3, 1, 0), (1, 0, None), (1, 0, 4)):
                    self.check(list(folds), few, cost, bits)

    def test_drawn_ones(self):
        drawn = Drawn(460)
        for _ in range(150):
            folds = [drawn.below(2 ** drawn.below(9)) for _ in range(drawn.below(10))]
            bits = drawn.item([None, 0, 1, 2, 3, 5, 8])
            self.check(folds, drawn.between(1, 4), drawn.below(7), bits)

    def test_edges(self):
        self.assertEqual(least_cuts([], 1, 5)[:2], (0, []))
        self.assertEqual(len(least_cuts([], 10 ** 29, 5, 0)[2]), 1)
        self.assertEqual(how_many_cuts([], 3, 5), 1)
        self.assertIsNone(least_cuts([1], 2, 0))
        self.assertIsNone(least_cuts([1], 10 ** 29, 0))
        self.assertEqual(how_many_cuts([1], 2, 0), 0)
        self.assertEqual(least_cuts([0, 0], 1, 0, 0)[0], 0)
        self.assertEqual([width for _, width in least_cuts([0, 0], 2, 7, 0)[1]], [None])
        self.assertEqual(how_many_cuts([0, 0, 0], 1, 0, 0), 4)
        self.assertEqual(least_cuts([4], 1, 10 ** 29)[0], 10 ** 29 + 4)
        self.assertEqual(least_cuts([7], 1, 0, 10 ** 29)[:2], least_cuts([7], 1, 0)[:2])
        self.assertTrue(is_cuts_paper([], 1, 5, None, (0, [], [10 ** 29])))
        self.assertFalse(is_cuts_paper([1], 2, 0, None, None))

    def test_bent_papers_are_refused(self):
        drawn = Drawn(461)
        for _ in range(60):
            folds = [drawn.below(2 ** drawn.below(7)) for _ in range(drawn.between(1, 8))]
            few, cost, bits = drawn.between(1, 2), drawn.below(5), drawn.item([None, 2, 4])
            told = least_cuts(folds, few, cost, bits)
            if told is None:
                continue
            total, cuts, prices = told
            bent = [(total + by, cuts, prices) for by in (-1, 1)]
            bent += [(total, cuts[:at] + cuts[at + 1:], prices) for at in range(len(cuts))]
            for at, (length, width) in enumerate(cuts):
                for cut in ((length + 1, width), (length - 1, width), (length, 0 if width is None else width + 1),
                            (length, None), (length, 0), (length, -1), (length, 121)):
                    bent.append((total, cuts[:at] + [cut] + cuts[at + 1:], prices))
            for at in range(len(prices)):
                for by in (-3, -1, 1, 2, 10):
                    bent.append((total, cuts, prices[:at] + [prices[at] + by] + prices[at + 1:]))
            bent += [(total, cuts, prices[1:]), (total, cuts, prices + prices[-1:]), (total, cuts + [(1, 0)], prices)]
            for value in bent:
                self.assertEqual(is_cuts_paper(folds, few, cost, bits, value), is_paper(folds, few, cost, bits, value))

    def test_odd_values_are_no_papers(self):
        folds, good = [0, 0, 7], (9, [(2, 0), (1, 2)], [0, 3, 4, 9])
        self.assertTrue(is_cuts_paper(folds, 1, 2, None, least_cuts(folds, 1, 2)))
        total, cuts, prices = least_cuts(folds, 1, 2)
        odd = [None, True, 0, "", [], (), {}, [total, cuts, prices], (total, cuts), (total, cuts, prices, 0),
               (True, cuts, prices), (None, cuts, prices), (total, tuple(cuts), prices), (total, cuts, tuple(prices)),
               (total, [list(cut) for cut in cuts], prices), (total, None, prices), (total, cuts, None), good[::-1],
               (total, cuts, [False] + prices[1:]), (total, [cuts], prices), (total, [(None, 0)], prices),
               (total, [(3, "0")], prices), (total, [(3, True)], prices), (total, [(3,)], prices), (total, [()], prices),
               (total, [(True, 0), (2, 0)], prices), (str(total), cuts, prices), (total, cuts, [str(one) for one in prices])]
        for value in odd:
            self.assertIs(is_cuts_paper(folds, 1, 2, None, value), False, value)

    def test_stretches_that_are_too_short_are_no_cuts(self):
        self.assertTrue(is_cuts_paper([0, 0], 2, 0, None, (2, [(2, 0)], [0, 0, 2])))
        self.assertFalse(is_cuts_paper([0, 0], 2, 0, None, (2, [(1, 0), (1, 0)], [0, 0, 2])))
        self.assertFalse(is_cuts_paper([0, 0], 1, 0, None, (2, [(2, 0), (0, 0)], [0, 1, 2])))

    def test_a_boolean_is_no_total(self):
        self.assertTrue(is_cuts_paper([0], 1, 0, None, (1, [(1, 0)], [0, 1])))
        self.assertFalse(is_cuts_paper([0], 1, 0, None, (True, [(1, 0)], [0, 1])))
        self.assertFalse(is_cuts_paper([0], 1, 0, None, (1, [(True, 0)], [0, 1])))
        self.assertFalse(is_cuts_paper([0], 1, 0, None, (1, [(1, False)], [0, 1])))
        self.assertFalse(is_cuts_paper([0], 1, 0, None, (1, [(1, 0)], [False, True])))

    def test_prices_that_rise_too_much_are_no_paper(self):
        # One stretch is dearer than two, and the numbers say that it is not.
        folds = [0, 0, 100, 100]
        self.assertTrue(is_cuts_paper(folds, 2, 1, None, least_cuts(folds, 2, 1)))
        single = 1 + least_of(folds)
        self.assertFalse(is_cuts_paper(folds, 2, 1, None, (single, [(4, 5)], [0, 0, 0, 0, single])))
        self.assertFalse(is_cuts_paper(folds, 2, 1, None, (single, [(4, 6)], [0, 0, 0, 0, single])))


class Gains(unittest.TestCase):

    def test_over_all_rows(self):
        for bits, most in ((0, 3), (1, 3), (2, 3), (3, 2), (4, 1)):
            rows = {many: [list(row) for row in itertools.product(range(2 ** bits), repeat=many)] for many in range(most + 1)}
            leasts = {tuple(row): least_of(row) for many in rows for row in rows[many]}
            for one, other in itertools.product(range(most + 1), repeat=2):
                gains = [least_of(left + right) - leasts[tuple(left)] - leasts[tuple(right)]
                         for left in rows[one] for right in rows[other]]
                self.assertEqual(greatest_gain(one, other, bits), max(gains))
                left, right = gain_rows(one, other, bits)
                self.assertIn(left, rows[one])
                self.assertIn(right, rows[other])
                self.assertEqual(least_of(left + right) - least_of(left) - least_of(right), max(gains))
                for cost in (0, max(gains) - 1, max(gains), max(gains) + 1):
                    if cost >= 0:
                        self.assertIs(never_pays(one, other, bits, cost), max(gains) <= cost)

    def test_no_rows_gain_nothing(self):
        for many in (0, 1, 5, 4000):
            for bits in (0, 7, 40):
                self.assertEqual(greatest_gain(0, many, bits), 0)
                self.assertEqual(greatest_gain(many, 0, bits), 0)
                self.assertEqual([len(row) for row in gain_rows(many, 0, bits)], [many, 0])
        self.assertEqual(greatest_gain(7, 9, 0), 0)
        self.assertIs(type(gain_rows(1, 1, 1)), tuple)

    def test_drawn_rows_gain_no_more(self):
        drawn = Drawn(470)
        for _ in range(300):
            bits = drawn.between(1, 12)
            one = [drawn.below(2 ** drawn.between(0, bits)) for _ in range(drawn.between(1, 12))]
            other = [drawn.below(2 ** drawn.between(0, bits)) for _ in range(drawn.between(1, 12))]
            gain = least_of(one + other) - least_of(one) - least_of(other)
            self.assertLessEqual(gain, greatest_gain(len(one), len(other), bits))
            left, right = gain_rows(len(one), len(other), bits)
            self.assertEqual((len(left), len(right), max(left + right) < 2 ** bits), (len(one), len(other), True))
            self.assertEqual(least_of(left + right) - least_of(left) - least_of(right),
                             greatest_gain(len(one), len(other), bits))


class Halves(unittest.TestCase):

    def by_words(self, folds, most):
        sums = []
        for times in range(most + 1):
            if len(folds) % 2 ** times:
                break
            length = len(folds) // 2 ** times
            sums.append(sum(least_of(folds[at * length:(at + 1) * length]) for at in range(2 ** times)))
        return sums

    def test_by_their_words(self):
        drawn = Drawn(480)
        for many in (0, 1, 2, 3, 4, 6, 8, 12, 16, 24, 32):
            for most in (0, 1, 2, 3, 4, 5, 12):
                folds = [drawn.below(2 ** drawn.below(10)) for _ in range(many)]
                sums = self.by_words(folds, most)
                self.assertEqual(halves(folds, most), sums)
                for cost in (0, 1, 5, 40, 10 ** 6):
                    totals = [total + cost * 2 ** times for times, total in enumerate(sums)]
                    self.assertEqual(least_half(folds, most, cost), (totals.index(min(totals)), min(totals)))

    def test_edges(self):
        self.assertEqual(halves([], 3), [0, 0, 0, 0])
        self.assertEqual(least_half([], 3, 5), (0, 5))
        self.assertEqual(least_half([], 3, 0), (0, 0))
        self.assertEqual(halves([5], 12), [least_of([5])])
        self.assertEqual(halves([0, 0], 0), [2])
        self.assertEqual(least_half([0, 0], 1, 0), (0, 2))
        self.assertEqual(len(halves([0] * 2048, 12)), 12)


class Limits(unittest.TestCase):

    def test_the_limits_are_reached(self):
        begun = time.monotonic()
        drawn = Drawn(490)
        folds = drawn.numbers(4000, 0, 2 ** 40 - 1)
        bits = written(folds, 38)
        self.assertEqual(read_folds(bits, 38, 4000), (folds, ""))
        read, rest, _ = turned_reading(folds, 38, len(bits) // 2)
        self.assertEqual(len(words_of(read, 38) + rest), len(bits))
        row = "".join(drawn.item("01") for _ in range(4000))
        for width, told in readings(row, 24) + readings("0" * 4000, 24):
            self.assertIn(words_of(told, width), (row, "0" * 4000))
        for one, other in ((24, 23), (24, 22), (23, 19)):
            both_read(one, other)
        short = [drawn.below(2 ** drawn.below(41)) for _ in range(300)]
        for few, cost, raw in ((1, 5, None), (7, 30, 40), (300, 0, 20)):
            self.assertTrue(is_cuts_paper(short, few, cost, raw, least_cuts(short, few, cost, raw)))
        how_many_cuts(short[:60], 1, 5, 30)
        self.assertEqual(sum(len(row) for row in gain_rows(4000, 4000, 40)), 8000)
        self.assertTrue(never_pays(4000, 4000, 40, greatest_gain(4000, 4000, 40)))
        self.assertEqual(len(halves(folds, 12)), 6)
        self.assertEqual(len(halves(folds[:2048], 12)), 12)
        least_half(folds[:2048], 12, 100)
        self.assertLess(time.monotonic() - begun, 20)


if __name__ == "__main__":
    unittest.main()
