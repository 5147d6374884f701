"""[90] to [94]: marks, rows without them, stuffed rows and carried ones, against all short rows."""

import itertools
import time
import unittest

from wholesound.carriers import bare, carried, growth, growths, most_growth, most_row, parting_growth, pieces, same_growths
from wholesound.carriers import stuffed, sum_growth, uncarried
from wholesound.errors import InvalidBits, InvalidMark
from wholesound.marks import borders, how_many_free, is_free, is_keepable, parting_length, rows_without, same_marks

from tests.drawn import Drawn


def rows(many):
    return ["".join(signs) for signs in itertools.product("01", repeat=many)]


def marks(most):
    return [mark for many in range(2, most + 1) for mark in rows(many)]


KEEPABLE = [mark for mark in marks(5) if mark[-1] in mark[:-1]]
CARRIERS = [mark for mark in marks(6) if mark[-1] in mark[:-1] and not any(mark[:at] == mark[-at:] for at in range(1, len(mark)))]


def stuffed_by_words(mark, bits):
    row = ""
    for sign in bits:
        row += sign
        while len(row) >= len(mark) - 1 and row[len(row) - len(mark) + 1:] == mark[:-1]:
            row += "0" if mark[-1] == "1" else "1"
            assert len(row) < 500
    return row


def places_of(mark, bits):
    return [at for at in range(len(bits) - len(mark) + 1) if bits[at:at + len(mark)] == mark]


class Marks(unittest.TestCase):

    def test_borders(self):
        for mark in marks(8):
            told = [at for at in range(1, len(mark)) if mark[:at] == mark[len(mark) - at:]]
            self.assertEqual(borders(mark), told)
            self.assertIs(is_free(mark), told == [])
            self.assertIs(is_keepable(mark), mark[-1] in mark[:-1])
        self.assertEqual(borders("1" * 16), list(range(1, 16)))
        self.assertEqual([is_keepable("1" * 15 + "0"), is_keepable("0" + "1" * 15), is_keepable("10"), is_keepable("11")],
                         [False, True, False, True])

    def test_how_many_are_free(self):
        for many in range(2, 13):
            self.assertEqual(how_many_free(many), len([mark for mark in rows(many) if not any(mark[:at] == mark[-at:] for at in range(1, many))]))
        told = {1: 2}
        for many in range(2, 1001):
            told[many] = 2 * told[many - 1] - (told[many // 2] if many % 2 == 0 else 0)
        for many in (2, 3, 16, 17, 500, 999, 1000):
            self.assertEqual(how_many_free(many), told[many])

    def test_rows_without_over_all_rows(self):
        for many in range(11):
            every = rows(many)
            for mark in marks(4):
                self.assertEqual(rows_without(mark, many), len([bits for bits in every if mark not in bits]))
        for mark in ("1" * 16, "01" * 8, "0" * 15 + "1"):
            self.assertEqual([rows_without(mark, many) for many in (0, 15, 16)], [1, 2 ** 15, 2 ** 16 - 1])

    def test_rows_without_by_known_numbers(self):
        one, other = 1, 2
        for many in range(1000):
            if many in (0, 1, 5, 77, 999):
                self.assertEqual(rows_without("11", many), one)
                self.assertEqual(rows_without("10", many), many + 1)
            one, other = other, one + other
        self.assertEqual(rows_without("01", 1000), 1001)

    def test_same_marks(self):
        every = marks(5)
        counts = {mark: [rows_without(mark, many) for many in range(24)] for mark in every}
        for one, other in itertools.product(every, repeat=2):
            unlike = [many for many in range(24) if counts[one][many] != counts[other][many]]
            self.assertIs(same_marks(one, other), not unlike)
            self.assertEqual(parting_length(one, other), unlike[0] if unlike else None)

    def test_same_marks_by_their_rule(self):
        drawn = Drawn(910)
        for _ in range(120):
            many = drawn.between(2, 16)
            one = "".join(drawn.item("01") for _ in range(many))
            other = drawn.item([one[::-1], one.replace("0", "2").replace("1", "0").replace("2", "1"),
                                "".join(drawn.item("01") for _ in range(many)), one[:-1] + "1"])
            self.assertIs(same_marks(one, other), len(one) == len(other) and borders(one) == borders(other))
            told = parting_length(one, other)
            if told is None:
                self.assertEqual(rows_without(one, 60), rows_without(other, 60))
            else:
                self.assertNotEqual(rows_without(one, told), rows_without(other, told))
                self.assertTrue(all(rows_without(one, less) == rows_without(other, less) for less in range(told)))
        self.assertEqual([parting_length("1" * 16, "11"), parting_length("1" * 16, "1" * 15 + "0")], [2, 17])


class Stuffed(unittest.TestCase):

    def test_over_all_short_rows(self):
        for mark in KEEPABLE:
            told = {}
            for many in range(9):
                for bits in rows(many):
                    row = stuffed(mark, bits)
                    self.assertEqual(row, stuffed_by_words(mark, bits))
                    self.assertEqual(bare(mark, row), bits)
                    self.assertEqual(growth(mark, bits), len(row) - many)
                    told[row] = bits
            # Just the rows without the mark that do not end in all of it but its last bit are stuffed ones.
            for many in range(9):
                for row in rows(many):
                    if mark not in row and not row.endswith(mark[:-1]):
                        self.assertEqual(bare(mark, row), told[row])
                    else:
                        with self.assertRaises(InvalidBits) as caught:
                            bare(mark, row)
                        self.assertIs(caught.exception.value, row)

    def test_marks_that_are_not_keepable(self):
        for mark in marks(4):
            if mark[-1] not in mark[:-1]:
                for function in (stuffed, bare, growth):
                    with self.assertRaises(InvalidMark) as caught:
                        function(mark, "01")
                    self.assertIs(caught.exception.value, mark)

    def test_rows_that_hold_the_mark_again_and_again(self):
        for mark in KEEPABLE + ["1" * 16, "0110" * 4, "0" + "1" * 15, "1" + "0" * 14 + "1"]:
            for bits in (mark * 20, (mark[:-1]) * 20, mark[:-1] + mark, "0" * 60, "1" * 60, "01" * 30):
                row = stuffed(mark, bits)
                self.assertEqual(row, stuffed_by_words(mark, bits))
                self.assertNotIn(mark, row)
                self.assertEqual(bare(mark, row), bits)

    def test_empty_rows(self):
        for mark in KEEPABLE:
            self.assertEqual([stuffed(mark, ""), bare(mark, ""), growth(mark, "")], ["", "", 0])


class Growths(unittest.TestCase):

    def test_over_all_rows(self):
        for mark in KEEPABLE:
            for many in range(9):
                told = [len(stuffed_by_words(mark, bits)) - many for bits in rows(many)]
                self.assertEqual(most_growth(mark, many), max(told))
                self.assertEqual(growths(mark, many), [told.count(by) for by in range(max(told) + 1)])
                self.assertEqual(sum_growth(mark, many), sum(told))
                row = most_row(mark, many)
                self.assertEqual((len(row), growth(mark, row)), (many, max(told)))

    def test_longer_marks_and_rows(self):
        drawn = Drawn(930)
        for _ in range(60):
            mark = "".join(drawn.item("01") for _ in range(drawn.between(2, 16)))
            if mark[-1] not in mark[:-1]:
                continue
            ahead = mark[:-1] + ("0" if mark[-1] == "1" else "1")
            shared = max(at for at in range(len(mark)) if mark[:at] == ahead[len(ahead) - at:])
            first = len(mark) - 1
            for many in (0, first - 1, first, first + 1, 60, 300, 4000, 10 ** 18):
                told = 0 if many < first else 1 + (many - first) // (first - shared)
                self.assertEqual(most_growth(mark, many), told)
                if many <= 4000:
                    row = most_row(mark, many)
                    self.assertEqual((len(row), set(row) <= {"0", "1"}, growth(mark, row)), (many, True, told))
                if many <= 60:
                    counts = growths(mark, many)
                    self.assertEqual((len(counts), sum(counts), counts[-1] > 0), (told + 1, 2 ** many, True))
                    self.assertEqual(sum_growth(mark, many), sum(by * count for by, count in enumerate(counts)))
            for _ in range(10):
                bits = "".join(drawn.item("01") for _ in range(60))
                self.assertLessEqual(growth(mark, bits), most_growth(mark, 60))

    def test_sums_by_the_first_bit(self):
        # By another way: what a row grows by, over all rows, one sign at a time.
        for mark in ("101", "011", "1101", "0101101"):
            ends = {"": 1}
            total = 0
            for many in range(1, 30):
                behind = {}
                for end, count in ends.items():
                    for sign in "01":
                        row = end + sign
                        if row.endswith(mark[:-1]):
                            total_here = count
                            row += "0" if mark[-1] == "1" else "1"
                        else:
                            total_here = 0
                        total += total_here * 2 ** (29 - many)
                        row = row[-len(mark):]
                        behind[row] = behind.get(row, 0) + count
                ends = behind
            self.assertEqual(sum_growth(mark, 29), total)

    def test_same_growths(self):
        counts = {mark: [growths(mark, many) for many in range(26)] for mark in KEEPABLE}
        for one, other in itertools.product(KEEPABLE, repeat=2):
            unlike = [many for many in range(26) if counts[one][many] != counts[other][many]]
            self.assertIs(same_growths(one, other), not unlike)
            self.assertEqual(parting_growth(one, other), unlike[0] if unlike else None)

    def test_long_marks_grow_unlike_before_long(self):
        drawn = Drawn(931)
        every = ["1" * 16, "0" * 16, "01" * 8, "0" + "1" * 15, "1" + "0" * 15]
        for _ in range(10):
            mark = "".join(drawn.item("01") for _ in range(drawn.item([15, 16])))
            if mark[-1] in mark[:-1]:
                every.append(mark)
        for one, other in itertools.combinations(every, 2):
            told = parting_growth(one, other)
            self.assertIs(same_growths(one, other), told is None)
            if told is None:
                self.assertEqual(growths(one, 60), growths(other, 60))
                self.assertEqual(sum_growth(one, 300), sum_growth(other, 300))
            else:
                self.assertNotEqual(growths(one, told), growths(other, told))
                self.assertTrue(all(growths(one, less) == growths(other, less) for less in range(max(told - 3, 0), told)))


class Carried(unittest.TestCase):

    def test_over_all_short_rows(self):
        for mark in CARRIERS:
            for lists in ([], [""], ["", ""], ["0"], ["1", "10"], [mark, mark[:-1], "", "1" + mark]):
                self.check(mark, lists)
            for one, other in itertools.product(rows(3), repeat=2):
                self.check(mark, [one, other])

    def check(self, mark, lists):
        bits = carried(mark, lists)
        self.assertEqual(bits, mark + "".join(stuffed_by_words(mark, row) + mark for row in lists))
        places = [0]
        for row in lists:
            places.append(places[-1] + len(mark) + len(stuffed_by_words(mark, row)))
        self.assertEqual(places_of(mark, bits), places)
        self.assertEqual(uncarried(mark, bits), lists)
        self.assertEqual(pieces(mark, bits), [(place + len(mark), row) for place, row in zip(places, lists)])

    def test_pieces_of_any_bits(self):
        for mark in CARRIERS:
            for many in range(13):
                for bits in rows(many)[::1 if many < 9 else 13]:
                    places, told = places_of(mark, bits), []
                    for low, high in zip(places, places[1:]):
                        between = bits[low + len(mark):high]
                        whole = not between.endswith(mark[:-1])
                        told.append((low + len(mark), bare(mark, between) if whole else None))
                    self.assertEqual(pieces(mark, bits), told)
                    outer = bool(places) and places[0] == 0 and places[-1] == len(bits) - len(mark)
                    if outer and all(row is not None for _, row in told):
                        self.assertEqual(uncarried(mark, bits), [row for _, row in told])
                        self.assertEqual(carried(mark, uncarried(mark, bits)), bits)
                    else:
                        with self.assertRaises(InvalidBits) as caught:
                            uncarried(mark, bits)
                        self.assertIs(caught.exception.value, bits)

    def test_marks_that_carry_nothing(self):
        for mark in marks(5):
            if mark not in CARRIERS:
                for function, argument in ((carried, [""]), (pieces, "01"), (uncarried, mark)):
                    with self.assertRaises(InvalidMark) as caught:
                        function(mark, argument)
                    self.assertIs(caught.exception.value, mark)

    def test_the_mark_alone(self):
        for mark in CARRIERS:
            self.assertEqual([carried(mark, []), uncarried(mark, mark), pieces(mark, mark), pieces(mark, "")], [mark, [], [], []])


class Limits(unittest.TestCase):

    def test_the_limits_are_reached(self):
        begin = time.monotonic()
        drawn = Drawn(990)
        for mark in ("1" * 16, "10" * 8, "1000000000000100", "0111", "11"):
            rows_without(mark, 1000)
            growths(mark, 60) if is_keepable(mark) else None
            if is_keepable(mark):
                bits = "".join(drawn.item("01") for _ in range(4000))
                for row in (bits, mark * 250, most_row(mark, 4000)):
                    self.assertEqual(bare(mark, stuffed(mark, row[:4000])), row[:4000])
                sum_growth(mark, 300)
                most_growth(mark, 10 ** 18)
        mark = "0000000000000011" if is_free("0000000000000011") else "0111"
        lists = ["".join(drawn.item("01") for _ in range(drawn.below(80))) for _ in range(60)]
        self.assertEqual(uncarried(mark, carried(mark, lists)), lists)
        for mark in ("011", "0111", "0000000000000011", "100"):
            bits = "".join(drawn.item("01") for _ in range(4000))
            self.assertEqual(uncarried(mark, carried(mark, [bits, "", bits])), [bits, "", bits])
            self.assertEqual(len(pieces(mark, bits)), max(len(places_of(mark, bits)) - 1, 0))
            pieces(mark, mark * 250)
        how_many_free(1000)
        self.assertEqual(parting_length("1" * 16, "10" * 8), 17)
        self.assertLess(time.monotonic() - begin, 15)


if __name__ == "__main__":
    unittest.main()
