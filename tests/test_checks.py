"""[60] to [64]: check words, unseen places and shapes, against long division of sums over two."""

import itertools
import time
import unittest

from wholesound.checks import Check, all_odd, distance, how_many_shapes, is_right, joined_word, least_unseen, longest
from wholesound.checks import order, power, rest, sealed, shape_at, shape_number, turned_word, unseen, word
from wholesound.errors import InvalidNumber, InvalidPlaces

from tests.drawn import Drawn


def all_checks(most):
    return [Check(width, low) for width in range(1, most + 1) for low in range(1, 2 ** width, 2)]


def divided(number, check):
    """The rest of a sum, told as a number, by taking the check's sum off its highest power."""
    whole = int(check.bits(), 2)
    for at in range(number.bit_length() - 1, check.width - 1, -1):
        if number >> at & 1:
            number ^= whole << (at - check.width)
    return number


def rest_of(check, bits):
    return divided(int("0" + bits, 2), check)


def turned(bits, places):
    signs = list(bits)
    for place in places:
        signs[-1 - place] = "1" if signs[-1 - place] == "0" else "0"
    return "".join(signs)


def all_bits(most):
    return ["".join(signs) for many in range(most + 1) for signs in itertools.product("01", repeat=many)]


def hidden(check, places):
    return divided(sum(2 ** place for place in places), check) == 0


def drawn_bits(drawn, many):
    return "".join(drawn.item("01") for _ in range(many))


class Words(unittest.TestCase):

    def test_what_a_check_is(self):
        for check in all_checks(6):
            self.assertEqual(check.bits(), "1" + bin(check.low)[2:].rjust(check.width, "0"))
            self.assertEqual(len(check.bits()), check.width + 1)
        self.assertEqual([Check(1, 1).bits(), Check(16, 1).bits(), Check(16, 2 ** 16 - 1).bits()],
                         ["11", "1" + "0" * 15 + "1", "1" * 17])
        for one, other in itertools.product(all_checks(4), repeat=2):
            self.assertIs(one == other, (one.width, one.low) == (other.width, other.low))
        for odd in (None, 3, (3, 3), [3, 3], "1011", "Check"):
            self.assertFalse(Check(3, 3) == odd)

    def test_all_short_rows(self):
        for check in all_checks(4):
            for bits in all_bits(7):
                told = rest(check, bits)
                self.assertEqual(told, rest_of(check, bits))
                self.assertEqual(word(check, bits), rest_of(check, bits + "0" * check.width))
                self.assertIs(is_right(check, bits), told == 0)
                row = sealed(check, bits)
                self.assertEqual(row, bits + bin(word(check, bits))[2:].rjust(check.width, "0"))
                self.assertTrue(is_right(check, row))

    def test_no_other_row_that_begins_so_is_right(self):
        for check in all_checks(4):
            for bits in all_bits(4):
                ends = itertools.product("01", repeat=check.width)
                right = [bits + "".join(end) for end in ends if is_right(check, bits + "".join(end))]
                self.assertEqual(right, [sealed(check, bits)])

    def test_empty_rows(self):
        for check in all_checks(3) + [Check(16, 4107)]:
            self.assertEqual((rest(check, ""), word(check, ""), sealed(check, ""), is_right(check, "")),
                             (0, 0, "0" * check.width, True))

    def test_powers(self):
        for check in all_checks(5):
            for many in range(40):
                self.assertEqual(power(check, many), divided(2 ** many, check))
        drawn = Drawn(620)
        for _ in range(60):
            check = Check(16, drawn.below(2 ** 15) * 2 + 1)
            many = drawn.below(2000)
            self.assertEqual(power(check, many), divided(2 ** many, check))
            far = drawn.below(10 ** 18)
            self.assertEqual(power(check, far), power(check, far % order(check)))
        self.assertEqual(power(Check(1, 1), 10 ** 18), 1)
        self.assertEqual(power(Check(16, 4107), 0), 1)

    def test_words_of_joined_rows(self):
        for check in all_checks(3):
            for one, other in itertools.product(all_bits(4), repeat=2):
                told = joined_word(check, word(check, one), word(check, other), len(other))
                self.assertEqual(told, word(check, one + other))
        drawn = Drawn(621)
        for _ in range(80):
            width = drawn.between(1, 16)
            check = Check(width, drawn.below(2 ** (width - 1)) * 2 + 1)
            one, other = drawn_bits(drawn, drawn.below(60)), drawn_bits(drawn, drawn.below(60))
            told = joined_word(check, word(check, one), word(check, other), len(other))
            self.assertEqual(told, word(check, one + other))
        far = 10 ** 18
        self.assertEqual(joined_word(Check(3, 3), 5, 0, far), joined_word(Check(3, 3), 5, 0, far % 7))

    def test_words_of_turned_rows(self):
        drawn = Drawn(622)
        for check in all_checks(3):
            for bits in all_bits(5):
                for many in range(len(bits) + 1):
                    for places in itertools.combinations(range(len(bits)), many):
                        told = turned_word(check, word(check, bits), list(places))
                        self.assertEqual(told, word(check, turned(bits, places)))
        for _ in range(60):
            width = drawn.between(1, 16)
            check = Check(width, drawn.below(2 ** (width - 1)) * 2 + 1)
            bits = drawn_bits(drawn, 200)
            places = sorted({drawn.below(200) for _ in range(drawn.below(9))})
            self.assertEqual(turned_word(check, word(check, bits), places), word(check, turned(bits, places)))
            far = order(check) * drawn.below(10 ** 12)
            moved = [place + far for place in places]
            self.assertEqual(turned_word(check, 1, moved), turned_word(check, 1, places))
        self.assertEqual(turned_word(Check(3, 3), 5, []), 5)


class Unseen(unittest.TestCase):

    def test_all_short_lists(self):
        for check in all_checks(4):
            for many in range(6):
                for places in itertools.combinations(range(8), many):
                    self.assertIs(unseen(check, list(places)), hidden(check, places))
                    self.assertIs(unseen(check, [place + 10 ** 17 for place in places]), hidden(check, places))
        self.assertTrue(unseen(Check(16, 4107), []))
        self.assertFalse(unseen(Check(16, 4107), [10 ** 18]))
        self.assertTrue(unseen(Check(1, 1), [0, 10 ** 18]))

    def test_right_rows_stay_right(self):
        for check in all_checks(3):
            rows = [bits for bits in all_bits(7) if len(bits) == 7 and rest_of(check, bits) == 0]
            for many in range(8):
                for places in itertools.combinations(range(7), many):
                    right = [is_right(check, turned(bits, places)) for bits in rows]
                    self.assertEqual(set(right), {unseen(check, list(places))})

    def test_orders(self):
        for check in all_checks(7):
            many = order(check)
            self.assertEqual([at for at in range(1, many + 1) if power(check, at) == 1], [many])
            for one, other in itertools.combinations(range(12), 2):
                self.assertIs(unseen(check, [one, other]), (other - one) % many == 0)
        self.assertEqual([order(Check(1, 1)), order(Check(16, 1)), order(Check(16, 4107))], [1, 16, 65535])

    def by_words(self, check, many):
        """The first of the shortest lists of unseen places below a number, of 2 to 4."""
        for few in (2, 3, 4):
            for places in itertools.combinations(range(many), few):
                if hidden(check, places):
                    return list(places)
        return None

    def test_distances(self):
        for check in all_checks(5):
            for many in range(15):
                places = self.by_words(check, many)
                self.assertEqual(least_unseen(check, many), places)
                self.assertEqual(distance(check, many), len(places) if places else None)

    def test_drawn_distances(self):
        drawn = Drawn(630)
        for _ in range(25):
            width = drawn.between(5, 9)
            check = Check(width, drawn.below(2 ** (width - 1)) * 2 + 1)
            many = drawn.between(5, 24)
            places = self.by_words(check, many)
            self.assertEqual(least_unseen(check, many), places)
            self.assertEqual(distance(check, many), len(places) if places else None)

    def test_far_distances(self):
        for check in all_checks(6) + [Check(16, 4107), Check(8, 29)]:
            many = order(check)
            for far in (many + 1, 10 ** 18):
                self.assertEqual((distance(check, far), least_unseen(check, far)), (2, [0, many]))
            if many <= 200:
                self.assertNotEqual(distance(check, many), 2)

    def test_longest(self):
        for check in all_checks(5):
            for few in (3, 4, 5):
                many = longest(check, few)
                below = [places for size in range(1, few) for places in itertools.combinations(range(many), size)]
                self.assertFalse(any(hidden(check, places) for places in below))
                beyond = [places for size in range(1, few) for places in itertools.combinations(range(many + 1), size)]
                self.assertTrue(any(hidden(check, places) for places in beyond))
        self.assertEqual([longest(Check(1, 1), few) for few in (3, 4, 5)], [1, 1, 1])

    def test_longest_by_the_distance(self):
        drawn = Drawn(631)
        for check in [Check(16, drawn.below(2 ** 15) * 2 + 1) for _ in range(12)] + [Check(16, 4107), Check(8, 29)]:
            for few in (3, 4, 5):
                many = longest(check, few)
                for told in (distance(check, many), distance(check, many // 2)):
                    self.assertTrue(told is None or told >= few)
                self.assertLess(distance(check, many + 1), few)

    def has_few(self, powers, few):
        """Whether fewer places than `few` have powers that sum up to 0, by all sums of pairs."""
        pairs = [one ^ other for one, other in itertools.combinations(powers, 2)]
        two, three = 0 in pairs, bool(set(pairs) & set(powers))
        return two or few > 3 and three or few > 4 and len(set(pairs)) < len(pairs)

    def test_longest_of_wide_checks_by_all_pairs(self):
        drawn = Drawn(633)
        checks = [Check(width, drawn.below(2 ** (width - 1)) * 2 + 1) for width in range(6, 17) for _ in range(4)]
        for check in checks + [Check(16, 4107), Check(8, 29), Check(16, 4129)]:
            for few in (4, 5):
                many = longest(check, few)
                powers = [power(check, place) for place in range(min(many + 1, 400))]
                self.assertFalse(self.has_few(powers[:min(many, 400)], few))
                if many < 400:
                    self.assertTrue(self.has_few(powers, few))
                for below in (many - 1, many, many + 1, 60):
                    if 0 <= below <= 400:
                        powers = [power(check, place) for place in range(below)]
                        told = [size for size in (2, 3, 4) if self.has_few(powers, size + 1)]
                        self.assertEqual(distance(check, below), told[0] if told else None)

    def test_the_first_three_and_four_of_wide_checks(self):
        drawn = Drawn(634)
        seen = []
        for _ in range(40):
            width = drawn.between(6, 16)
            check = Check(width, drawn.below(2 ** (width - 1)) * 2 + 1)
            many = min(longest(check, 5) + drawn.between(1, 6), 60)
            powers = [power(check, place) for place in range(many)]
            places = {number: place for place, number in enumerate(powers)}
            few = distance(check, many)
            seen.append(few)
            if few is None:
                self.assertIsNone(least_unseen(check, many))
            elif few > 2:
                lists = []
                for begun in itertools.combinations(range(many), few - 1):
                    total = 0
                    for place in begun:
                        total ^= powers[place]
                    if places.get(total, -1) > begun[-1]:
                        lists.append(list(begun) + [places[total]])
                        break
                self.assertEqual(least_unseen(check, many), lists[0])
        self.assertTrue({3, 4} <= set(seen), seen)

    def test_odd_numbers_of_places(self):
        for check in all_checks(5):
            lists = [places for many in (1, 3, 5) for places in itertools.combinations(range(10), many)]
            found = any(hidden(check, places) for places in lists)
            self.assertIs(all_odd(check), check.bits().count("1") % 2 == 0)
            if all_odd(check):
                self.assertFalse(found)
            else:
                # The check's own sum has an odd number of powers.
                own = [place for place, sign in enumerate(check.bits()[::-1]) if sign == "1"]
                self.assertTrue(len(own) % 2 == 1 and unseen(check, own))

    def test_places_of_the_greatest_checks(self):
        drawn = Drawn(632)
        for _ in range(10):
            check = Check(16, drawn.below(2 ** 15) * 2 + 1)
            for many in (longest(check, 5) + 1, longest(check, 4) + 1, 400, 5000, order(check)):
                places = least_unseen(check, many)
                self.assertEqual(len(places), distance(check, many))
                self.assertTrue(hidden(check, places) and places[0] == 0 and places[-1] < many)

    def test_the_first_four_of_a_long_row(self):
        # By all pairs of powers: no three places are unseen, and the first list of four is told.
        for low, many in ((45, 60), (9, 120), (4107, 250)):
            check = Check(16, low) if low == 4107 else Check(10, low)
            pairs = {}
            for one, other in itertools.combinations(range(1, many), 2):
                pairs.setdefault(power(check, one) ^ power(check, other), []).append((one, other))
            found = [[0, one] + list(pair) for one in range(1, many)
                     for pair in pairs.get(power(check, one) ^ 1, []) if pair[0] > one]
            if distance(check, many) == 4:
                self.assertEqual(least_unseen(check, many), min(found))
            if distance(check, many) is None:
                self.assertEqual(found, [])


class Shapes(unittest.TestCase):

    def by_words(self, check, span):
        inner = [list(places) for many in range(max(span, 1)) for places in itertools.combinations(range(1, span), many)]
        lists = [[0] + places + [span] for places in inner] if span else [[0]]
        return sorted([places for places in lists if hidden(check, places)], key=lambda one: sum(2 ** at for at in one))

    def test_over_all_lists(self):
        for check in all_checks(4):
            for span in range(9):
                shapes = self.by_words(check, span)
                self.assertEqual(how_many_shapes(check, span), len(shapes))
                for number, places in enumerate(shapes):
                    self.assertEqual(shape_at(check, span, number), places)
                    self.assertEqual(shape_number(check, places), number)
                with self.assertRaises(InvalidNumber) as caught:
                    shape_at(check, span, len(shapes))
                self.assertEqual(caught.exception.value, len(shapes))

    def test_how_many(self):
        for check in (Check(1, 1), Check(5, 9), Check(16, 4107)):
            self.assertEqual([how_many_shapes(check, span) for span in range(check.width + 1)], [0] * check.width + [1])
            for span in (check.width + 1, check.width + 7, 1000):
                self.assertEqual(how_many_shapes(check, span) * 2 ** check.width, 2 ** (span - 1))
            own = [place for place, sign in enumerate(check.bits()[::-1]) if sign == "1"]
            self.assertEqual(shape_at(check, check.width, 0), own)
            self.assertEqual(shape_number(check, own), 0)

    def test_what_is_no_shape(self):
        three = Check(3, 3)
        for places in ([], [0], [0, 1], [1, 2, 4], [0, 7, 1001], [0, 1001], [7, 14], [0, 7 * 143 + 7]):
            with self.assertRaises(InvalidPlaces) as caught:
                shape_number(three, places)
            self.assertIs(caught.exception.value, places)
        self.assertEqual(shape_number(three, [0, 994]), self.number_below(three, [0, 994]))

    def number_below(self, check, places):
        """The number by looking for it from the highest bit on."""
        span, low, high = places[-1], 0, how_many_shapes(check, places[-1])
        wanted = sum(2 ** place for place in places)
        while high - low > 1:
            middle = (low + high) // 2
            if sum(2 ** place for place in shape_at(check, span, middle)) <= wanted:
                low = middle
            else:
                high = middle
        return low

    def test_spans_of_no_shape_and_the_greatest(self):
        three = Check(3, 3)
        for span in (0, 1, 2):
            for number in (0, 1, 7):
                with self.assertRaises(InvalidNumber) as caught:
                    shape_at(three, span, number)
                self.assertEqual(caught.exception.value, number)
        for number in (0, 77, 2 ** 996 - 1):
            self.assertEqual(shape_number(three, shape_at(three, 1000, number)), number)

    def test_great_spans(self):
        drawn = Drawn(640)
        for _ in range(30):
            width = drawn.between(1, 16)
            check = Check(width, drawn.below(2 ** (width - 1)) * 2 + 1)
            span = drawn.between(width + 1, 1000)
            many = how_many_shapes(check, span)
            sums = []
            for number in sorted({0, many - 1, drawn.below(many), drawn.below(many)}):
                places = shape_at(check, span, number)
                self.assertEqual((places[0], places[-1]), (0, span))
                self.assertTrue(hidden(check, places))
                self.assertEqual(shape_number(check, places), number)
                sums.append(sum(2 ** place for place in places))
            self.assertEqual(sums, sorted(sums))


class Limits(unittest.TestCase):

    def test_the_limits_are_reached(self):
        begun = time.monotonic()
        drawn = Drawn(650)
        check = Check(16, 4107)
        bits = drawn_bits(drawn, 4000)
        self.assertEqual(rest(check, bits), rest_of(check, bits))
        self.assertTrue(is_right(check, sealed(check, bits)))
        places = sorted({drawn.below(10 ** 18) for _ in range(4000)})
        self.assertEqual(turned_word(check, 5, places) == 5, unseen(check, places))
        turned_word(check, 5, list(range(4000)))
        joined_word(check, 65535, 1, 10 ** 18)
        for low in (1, 5, 4107, 32767, 65535, 49155, 36737, 64897):
            check = Check(16, low)
            for few in (3, 4, 5):
                longest(check, few)
            for many in (0, 1, 2, 300, 400, 32000, 65535, 10 ** 18):
                told = distance(check, many)
                places = least_unseen(check, many)
                self.assertEqual(places is None, told is None)
            shape_at(check, 1000, how_many_shapes(check, 1000) - 1)
        self.assertLess(time.monotonic() - begun, 20)


if __name__ == "__main__":
    unittest.main()
