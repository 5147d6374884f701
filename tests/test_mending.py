"""[65] to [68]: lost bits, turned bits, unseen lists counted, and two checks at once."""

import itertools
import time
import unittest
from fractions import Fraction
from math import comb

from wholesound.checks import Check, is_right, longest, order, power, rest, sealed, unseen
from wholesound.errors import InvalidNumber
from wholesound.mending import also_right, bits_with, can_fill, chance, filled_at, how_many_filled, how_many_unseen
from wholesound.mending import is_fill, mends, parted_bits, shared, together

from tests.drawn import Drawn
from tests.test_checks import all_bits, all_checks, drawn_bits, hidden, turned


def is_good_fill(check, places, value):
    """The judge, as the document tells it."""
    word, told = value
    if word == "yes":
        if len(told) != len(places) or any(not 0 <= mask < 2 ** check.width for mask in told):
            return False
        for place, mask in zip(places, told):
            for other in places:
                if bin(mask & power(check, other)).count("1") % 2 != (1 if other == place else 0):
                    return False
        return True
    if not told or told != sorted(set(told)) or not set(told) <= set(places):
        return False
    total = 0
    for place in told:
        total ^= power(check, place)
    return total == 0


def drawn_check(drawn, least, most):
    width = drawn.between(least, most)
    return Check(width, drawn.below(2 ** (width - 1)) * 2 + 1)


class Fills(unittest.TestCase):

    def test_over_all_places(self):
        for check in all_checks(3):
            for many in range(6):
                for places in itertools.combinations(range(6), many):
                    places = list(places)
                    told = can_fill(check, places)
                    self.assertTrue(is_good_fill(check, places, told))
                    self.assertIs(is_fill(check, places, told), True)
                    some = [part for size in range(1, many + 1) for part in itertools.combinations(places, size)]
                    self.assertEqual(told[0], "no" if any(hidden(check, part) for part in some) else "yes")

    def test_right_rows_can_be_told_apart_just_if_yes(self):
        for check in all_checks(3):
            rows = [bits for bits in all_bits(6) if len(bits) == 6 and is_right(check, bits)]
            for many in range(7):
                for places in itertools.combinations(range(6), many):
                    without = {tuple(sign for at, sign in enumerate(bits) if 5 - at not in places) for bits in rows}
                    told = can_fill(check, list(places))[0]
                    self.assertEqual(told, "yes" if len(without) == len(rows) else "no")

    def test_drawn_places(self):
        drawn = Drawn(651)
        for _ in range(80):
            check = drawn_check(drawn, 1, 16)
            far = drawn.item([10, 30, 1000, 10 ** 18])
            places = sorted({drawn.below(far) for _ in range(drawn.between(1, 20))})
            told = can_fill(check, places)
            self.assertTrue(is_good_fill(check, places, told))
            self.assertTrue(is_fill(check, places, told))
            if len(places) > check.width:
                self.assertEqual(told[0], "no")

    def test_places_within_the_width(self):
        drawn = Drawn(652)
        for _ in range(30):
            check = drawn_check(drawn, 1, 16)
            low = drawn.below(10 ** 17)
            places = [low + at for at in range(check.width)]
            self.assertEqual(can_fill(check, places)[0], "yes")
            self.assertEqual(can_fill(check, places + [low + check.width])[0], "no")
        self.assertEqual(can_fill(Check(1, 1), []), ("yes", []))
        self.assertTrue(is_fill(Check(1, 1), [], ("yes", [])))
        self.assertFalse(is_fill(Check(1, 1), [], ("no", [])))

    def test_bent_ones_are_refused(self):
        drawn = Drawn(653)
        for _ in range(60):
            check = drawn_check(drawn, 2, 8)
            places = sorted({drawn.below(20) for _ in range(drawn.between(2, 7))})
            word, told = can_fill(check, places)
            bent = [("no" if word == "yes" else "yes", told), (word, told[1:]), (word, told[::-1]), (word, told + told[-1:])]
            for at in range(len(told)):
                bent += [(word, told[:at] + [told[at] ^ 1 << bit] + told[at + 1:]) for bit in range(check.width)]
                bent.append((word, told[:at] + [told[at] + 2 ** check.width] + told[at + 1:]))
                bent.append((word, told[:at] + told[at + 1:]))
            # Any list of the places is judged as the document says.
            bent += [("no", list(some)) for size in range(len(places) + 1) for some in itertools.combinations(places, size)]
            bent += [("no", places + [places[-1] + order(check)]), ("no", [places[0], places[0] + order(check)])]
            for value in bent:
                self.assertIs(is_fill(check, places, value), is_good_fill(check, places, value), (check.bits(), places, value))

    def test_odd_values_are_none(self):
        check, places = Check(3, 3), [0, 1, 2]
        self.assertTrue(is_fill(check, places, ("yes", [1, 2, 4])))
        for value in (None, True, "yes", ["yes", [1, 2, 4]], ("yes", (1, 2, 4)), ("yes", [True, 2, 4]), ("yes", [1, 2, -4]),
                      ("yes", [1, 2, None]), ("yes",), ("yes", [1, 2, 4], 0), ("maybe", [1, 2, 4]), (True, [1, 2, 4]),
                      ("yes", None), ("no", None), ("no", [True, 2]), ("no", (0, 1)), (check, [1, 2, 4]), (["yes"], [1, 2, 4]),
                      ("yes", {0: 1, 1: 2, 2: 4}), ("yes", ["1", "2", "4"]), ("YES", [1, 2, 4])):
            self.assertIs(is_fill(check, places, value), False, value)
        self.assertIs(is_fill(check, [0, 7], ("no", [0, 7])), True)
        for value in (("no", [False, 7]), ("no", [7, 0]), ("no", [0, 14]), ("no", [0, 0, 7]), ("no", []), ("no", [[0, 7]])):
            self.assertIs(is_fill(check, [0, 7], value), False, value)


class Filled(unittest.TestCase):

    def by_words(self, check, bits):
        rows = [""]
        for sign in bits:
            rows = [row + one for row in rows for one in ("01" if sign == "?" else sign)]
        return [row for row in rows if is_right(check, row)]

    def check(self, check, bits):
        rows = self.by_words(check, bits)
        self.assertEqual(rows, sorted(rows))
        self.assertEqual(how_many_filled(check, bits), len(rows))
        for number, row in enumerate(rows):
            self.assertEqual(filled_at(check, bits, number), row)
        with self.assertRaises(InvalidNumber) as caught:
            filled_at(check, bits, len(rows))
        self.assertEqual(caught.exception.value, len(rows))

    def test_over_all_rows(self):
        for check in all_checks(3):
            for many in range(6):
                for signs in itertools.product("01?", repeat=many):
                    self.check(check, "".join(signs))

    def test_drawn_rows(self):
        drawn = Drawn(654)
        for _ in range(50):
            check = drawn_check(drawn, 1, 8)
            self.check(check, "".join(drawn.item("01?") for _ in range(drawn.below(16))))

    def test_edges(self):
        for check in all_checks(4):
            self.assertEqual(how_many_filled(check, ""), 1)
            self.assertEqual(filled_at(check, "", 0), "")
            for many in range(10):
                self.assertEqual(how_many_filled(check, "?" * many), 2 ** max(0, many - check.width))
            row = sealed(check, "1011")
            self.assertEqual((how_many_filled(check, row), filled_at(check, row, 0)), (1, row))
            self.assertEqual(how_many_filled(check, turned(row, [2])), 0)
        self.assertEqual(filled_at(Check(2, 3), "??????", 15), "111111")

    def test_what_was_lost_comes_back(self):
        drawn = Drawn(655)
        for _ in range(30):
            check = drawn_check(drawn, 3, 16)
            row = sealed(check, drawn_bits(drawn, drawn.between(20, 80)))
            low = drawn.below(len(row) - check.width)
            lossy = row[:low] + "?" * check.width + row[low + check.width:]
            self.assertEqual((how_many_filled(check, lossy), filled_at(check, lossy, 0)), (1, row))


class Mends(unittest.TestCase):

    def test_over_all_rows(self):
        for check in all_checks(3):
            for bits in all_bits(6):
                for most in range(3):
                    lists = [list(places) for many in range(most + 1) for places in itertools.combinations(range(len(bits)), many)]
                    self.assertEqual(mends(check, bits, most), [places for places in lists if is_right(check, turned(bits, places))])

    def test_turned_bits_come_back(self):
        drawn = Drawn(660)
        for check in [Check(16, 4107), Check(8, 29), Check(10, 873), Check(16, 5)]:
            for most in (1, 2):
                many = min(longest(check, 2 * most + 1), 300)
                if many <= check.width:
                    continue
                for _ in range(10):
                    row = sealed(check, drawn_bits(drawn, many - check.width))
                    for size in range(most + 1):
                        places = sorted({drawn.below(many) for _ in range(size)})
                        self.assertEqual(mends(check, turned(row, places), most), [places])

    def test_edges(self):
        self.assertEqual(mends(Check(3, 3), "", 2), [[]])
        self.assertEqual(mends(Check(3, 3), "1", 0), [])
        self.assertEqual(mends(Check(3, 3), "1", 1), [[0]])
        self.assertEqual(mends(Check(1, 1), "1111", 2), [[]] + [list(two) for two in itertools.combinations(range(4), 2)])


class Counts(unittest.TestCase):

    def test_over_all_lists(self):
        for check in all_checks(4) + [Check(6, 33), Check(10, 9)]:
            for many in range(11):
                for few in range(9):
                    lists = [places for places in itertools.combinations(range(many), few) if hidden(check, places)]
                    self.assertEqual(how_many_unseen(check, many, few), len(lists))

    def test_far_numbers_by_pairs_and_threes(self):
        # Of far numbers the lists of two and of three are counted by the rests of the places.
        for check in (Check(3, 3), Check(4, 3), Check(2, 3), Check(5, 31)):
            for many in (10 ** 18, 10 ** 18 - 1, 999999999999, 12345):
                length = order(check)
                counts = [many // length + (1 if at < many % length else 0) for at in range(length)]
                self.assertEqual(how_many_unseen(check, many, 2), sum(comb(one, 2) for one in counts))
                threes = [three for three in itertools.combinations(range(length), 3) if hidden(check, three)]
                whole = sum(counts[one] * counts[other] * counts[last] for one, other, last in threes)
                self.assertEqual(how_many_unseen(check, many, 3), whole)
                self.assertEqual([how_many_unseen(check, many, few) for few in (0, 1)], [1, 0])

    def test_all_unseen_lists(self):
        for check in (Check(3, 3), Check(4, 1), Check(2, 1)):
            for many in range(check.width, 9):
                self.assertEqual(sum(how_many_unseen(check, many, few) for few in range(9)), 2 ** (many - check.width))

    def test_chances_over_all_lists(self):
        for check in all_checks(3) + [Check(5, 5)]:
            for many in range(9):
                for top, under in ((0, 1), (1, 1), (1, 2), (1, 3), (3, 4), (999, 1000), (2, 4), (0, 7), (7, 7)):
                    part = Fraction(top, under)
                    whole = Fraction(0)
                    for size in range(1, many + 1):
                        lists = [one for one in itertools.combinations(range(many), size) if hidden(check, one)]
                        whole += len(lists) * part ** size * (1 - part) ** (many - size)
                    self.assertEqual(chance(check, many, top, under), (whole.numerator, whole.denominator))

    def test_chance_edges(self):
        for check in (Check(1, 1), Check(10, 9)):
            for many in (0, 1, 60):
                self.assertEqual(chance(check, many, 0, 5), (0, 1))
                self.assertEqual(chance(check, many, 1, 1), (1 if many and unseen(check, list(range(many))) else 0, 1))
        self.assertEqual(chance(Check(10, 9), 60, 1, 2), Fraction(2 ** 50 - 1, 2 ** 60).as_integer_ratio())


class TwoChecks(unittest.TestCase):

    def test_over_all_rows(self):
        rows = all_bits(9)
        right = {}
        for check in all_checks(4):
            right[check.bits()] = {bits for bits in rows if is_right(check, bits)}
        for one, other in itertools.product(all_checks(4), repeat=2):
            mine, its = right[one.bits()], right[other.bits()]
            self.assertIs(also_right(one, other), mine <= its)
            parted = min(mine - its, key=lambda bits: (len(bits), bits), default=None)
            self.assertEqual(parted_bits(one, other), parted)
            both = together(one, other)
            self.assertEqual({bits for bits in rows if is_right(both, bits)}, mine & its)
            common = [check for check in all_checks(4) if mine <= right[check.bits()] and its <= right[check.bits()]]
            widest = max(common, key=lambda check: check.width, default=None)
            self.assertEqual(shared(one, other), widest)

    def test_rows_with_two_rests(self):
        for one, other in itertools.product(all_checks(3), repeat=2):
            both = shared(one, other)
            many = one.width + other.width - (both.width if both else 0)
            told = {}
            for signs in itertools.product("01", repeat=many):
                bits = "".join(signs)
                told.setdefault((rest(one, bits), rest(other, bits)), []).append(bits)
            for left in range(2 ** one.width):
                for right in range(2 ** other.width):
                    rows = told.get((left, right), [])
                    self.assertLessEqual(len(rows), 1)
                    self.assertEqual(bits_with(one, other, left, right), rows[0] if rows else None)

    def test_great_checks(self):
        drawn = Drawn(680)
        for _ in range(60):
            one, other = drawn_check(drawn, 8, 16), drawn_check(drawn, 8, 16)
            both, whole = shared(one, other), together(one, other)
            width = one.width + other.width - (both.width if both else 0)
            self.assertEqual(whole is None, width > 16)
            bits = drawn_bits(drawn, width)
            self.assertEqual(bits_with(one, other, rest(one, bits), rest(other, bits)), bits)
            self.assertEqual(parted_bits(one, other), None if also_right(one, other) else one.bits())
        one = Check(16, 4107)
        self.assertEqual((together(one, one), shared(one, one)), (one, one))
        self.assertTrue(also_right(one, one))
        self.assertIsNone(parted_bits(one, one))
        self.assertEqual(bits_with(one, one, 513, 513), bin(513)[2:].rjust(16, "0"))
        self.assertIsNone(bits_with(one, one, 513, 512))
        self.assertIsNone(shared(Check(1, 1), Check(3, 3)))
        self.assertEqual(bits_with(Check(1, 1), Check(1, 1), 0, 0), "0")

    def test_products_of_checks(self):
        # Widths add up where nothing is shared: 8 and 8 make 16, 8 and 9 are too wide.
        drawn = Drawn(681)
        seen = set()
        for _ in range(60):
            one, other = drawn_check(drawn, 7, 9), drawn_check(drawn, 7, 9)
            if shared(one, other) is None:
                both = together(one, other)
                seen.add(one.width + other.width)
                self.assertEqual(both is None, one.width + other.width > 16)
                if both is not None:
                    self.assertEqual(both.width, one.width + other.width)
                    self.assertTrue(also_right(both, one) and also_right(both, other))
        self.assertTrue(seen >= {16, 17})


class Limits(unittest.TestCase):

    def test_the_limits_are_reached(self):
        begun = time.monotonic()
        drawn = Drawn(690)
        check = Check(16, 4107)
        places = sorted({drawn.below(10 ** 18) for _ in range(64)})
        self.assertTrue(is_fill(check, places, can_fill(check, places)))
        self.assertTrue(is_fill(check, places[:14], can_fill(check, places[:14])))
        bits = "".join(drawn.item("01?") for _ in range(4000))
        many = how_many_filled(check, bits)
        self.assertTrue(is_right(check, filled_at(check, bits, many - 1)))
        self.assertTrue(is_right(check, filled_at(check, "?" * 4000, 2 ** 3984 - 1)))
        row = drawn_bits(drawn, 300)
        for one in (check, Check(1, 1), Check(2, 3)):
            for places in mends(one, row, 2)[:50]:
                self.assertTrue(is_right(one, turned(row, places)))
        for low in (1, 9, 1023, 513):
            for few in range(9):
                how_many_unseen(Check(10, low), 10 ** 18, few)
            chance(Check(10, low), 60, 999, 1000)
        one, other = Check(16, 65535), check
        bits_with(one, other, 65535, 1)
        self.assertEqual([together(one, other), also_right(one, other)], [None, False])
        self.assertLess(time.monotonic() - begun, 20)


if __name__ == "__main__":
    unittest.main()
