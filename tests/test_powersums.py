"""The helper module of counts by sizes: both ways to count pairs tell the same, whatever the sizes and the bound."""

import unittest

from wholesound.powersums import MOST_PAIRS, add_all, all_pairs, packed, pairs_by_product, unpacked

from tests.drawn import Drawn


def pairs_by_words(one, other, most):
    found = {}
    for size, many in one.items():
        for more, times in other.items():
            if size + more <= most:
                found[size + more] = found.get(size + more, 0) + many * times
    return found


def drawn_counts(drawn, many, most, bits):
    return {drawn.between(0, most): drawn.between(1, 2 ** bits) for _ in range(many)}


class PowerSums(unittest.TestCase):

    def test_packed_and_unpacked(self):
        drawn = Drawn(841)
        for many in range(1, 40):
            slot = drawn.between(1, 70)
            counts = drawn.numbers(many, 0, 2 ** slot - 1)
            number = packed(counts, slot)
            self.assertEqual(number, sum(count << slot * at for at, count in enumerate(counts)))
            self.assertEqual(unpacked(number, many, slot), counts)

    def test_pairs_by_product(self):
        drawn = Drawn(842)
        for _ in range(300):
            one = drawn_counts(drawn, drawn.between(1, 12), drawn.item([3, 30, 90]), drawn.item([1, 5, 80]))
            other = drawn_counts(drawn, drawn.between(1, 12), drawn.item([3, 30, 90]), drawn.item([1, 5, 80]))
            sums = sorted(size + more for size in one for more in other)
            for most in (sums[0] - 1, sums[0], sums[len(sums) // 2], sums[-1] - 1, sums[-1], sums[-1] + 5, -3):
                wanted = pairs_by_words(one, other, most)
                self.assertEqual(pairs_by_product(one, other, most), wanted)
                self.assertEqual(all_pairs(one, other, most), wanted)

    def test_the_greatest_counts_stay_in_their_slots(self):
        for bits in (1, 7, 64):
            for many in (1, 2, 3, 8):
                counts = {at: 2 ** bits - 1 for at in range(many)}
                self.assertEqual(pairs_by_product(counts, counts, 99), pairs_by_words(counts, counts, 99))
        self.assertEqual(pairs_by_product({0: 1}, {5: 1}, 5), {5: 1})

    def test_many_sizes(self):
        drawn = Drawn(843)
        one, other = drawn_counts(drawn, 400, 1900, 60), drawn_counts(drawn, 300, 1900, 200)
        self.assertGreater(len(one) * len(other), MOST_PAIRS)
        for most in (100, 1973, 5000):
            self.assertEqual(all_pairs(one, other, most), pairs_by_words(one, other, most))
        self.assertEqual(all_pairs({}, one, 50), {})
        self.assertEqual(all_pairs(one, {}, 50), {})

    def test_further_counts(self):
        counts = {3: 1, 5: 2}
        add_all(counts, {0: 7, 2: 1, 4: 9}, 3, 6)
        self.assertEqual(counts, {3: 8, 5: 3})


if __name__ == "__main__":
    unittest.main()
