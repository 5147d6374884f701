"""[95]: hurts of rows of bits, and the most samples that hurts of carried rows spoil, with papers."""

import itertools
import unittest

from wholesound.carriers import carried, pieces
from wholesound.damage import hurt, is_lost_paper, lost_paper, most_lost, worst_marks
from wholesound.errors import InvalidBits, InvalidItem

from tests.drawn import Drawn
from tests.odd import bent


def all_bits(most):
    return ["".join(row) for many in range(most + 1) for row in itertools.product("01", repeat=many)]


def hurts_of(many):
    """All hurts of a row of so many bits."""
    found = [("turn", at) for at in range(many)] + [("lose", at) for at in range(many)]
    return found + [("put", at, sign) for at in range(many + 1) for sign in "01"]


def hurt_list(bits, one):
    signs = list(bits)
    if one[0] == "turn":
        signs[one[1]] = "10"[int(signs[one[1]])]
    elif one[0] == "lose":
        del signs[one[1]]
    else:
        signs.insert(one[1], one[2])
    return "".join(signs)


class Hurt(unittest.TestCase):

    def test_all_hurts_of_all_short_rows(self):
        for bits in all_bits(3):
            self.assertEqual(hurt(bits, []), bits)
            for one in hurts_of(len(bits)):
                now = hurt_list(bits, one)
                self.assertEqual(hurt(bits, [one]), now)
                for other in hurts_of(len(now)):
                    self.assertEqual(hurt(bits, [one, other]), hurt_list(now, other))

    def test_the_ends(self):
        self.assertEqual(hurt("", [("put", 0, "1")]), "1")
        self.assertEqual(hurt("01", [("put", 0, "1"), ("put", 3, "1")]), "1011")
        self.assertEqual(hurt("0", [("lose", 0)]), "")

    def test_places_that_are_there_only_for_what_was_made_ahead(self):
        self.assertEqual(hurt("0", [("put", 1, "1"), ("turn", 1), ("put", 2, "1"), ("lose", 2)]), "00")
        for hurts, wrong in (([("lose", 0), ("turn", 0)], 1), ([("put", 1, "1"), ("turn", 1), ("turn", 2), None], 2),
                             ([("lose", 0), ("put", 1, "0")], 1), ([("turn", 1)], 0)):
            with self.assertRaises(InvalidItem) as caught:
                hurt("0", hurts)
            self.assertIs(caught.exception.value, hurts[wrong])

    def test_the_first_wrong_argument(self):
        with self.assertRaises(InvalidBits):
            hurt("2", None)


class Watched:
    """Carried rows whose bits know which row or mark they belong to: what hurts hurt is seen."""

    def __init__(self, mark, rows):
        self.whole = carried(mark, rows)
        self.bits, self.hurt = [], set()
        owners, places = [], [place for place, _ in pieces(mark, self.whole)] + [len(self.whole)]
        for number, place in enumerate(places):
            while len(owners) < place - len(mark):
                owners.append(("row", number - 1))
            owners += [("mark", number)] * len(mark)
        self.bits = [[sign, owner] for sign, owner in zip(self.whole, owners)]

    def do(self, one):
        at = one[1]
        if one[0] == "put":
            self.bits.insert(at, [one[2], self.between(at)])
            self.hurt.add(self.bits[at][1])
        else:
            self.hurt.add(self.bits[at][1])
            if one[0] == "turn":
                self.bits[at][0] = "10"[int(self.bits[at][0])]
            else:
                del self.bits[at]

    def between(self, at):
        """Whose bit one is that is put in ahead of the bit at a place."""
        if at == 0 or at == len(self.bits):
            return ("outside", 0)
        ahead, behind = self.bits[at - 1][1], self.bits[at][1]
        if ahead == behind or "outside" in (ahead[0], behind[0]):
            return ahead if ahead == behind else ("outside", 0)
        if ahead[0] == "row" or behind[0] == "row":
            return ahead if ahead[0] == "row" else behind
        return ("row", ahead[1])

    def now(self):
        return "".join(sign for sign, _ in self.bits)

    def place_behind(self, number):
        """The place behind the mark with a number."""
        return max(at for at, (_, owner) in enumerate(self.bits) if owner == ("mark", number)) + 1


class Guarantee(unittest.TestCase):

    def look(self, mark, rows, hurts):
        watched = Watched(mark, rows)
        for one in hurts:
            watched.do(one)
        self.assertEqual(watched.now(), hurt(watched.whole, hurts))
        found = pieces(mark, watched.now())
        lost = []
        for number, row in enumerate(rows):
            if {("row", number), ("mark", number), ("mark", number + 1)} & watched.hurt:
                lost.append(number)
            else:
                self.assertIn((watched.place_behind(number), row), found, (mark, rows, hurts))
        self.assertLessEqual(len(lost), 2 * len(hurts))
        if len(hurts) == 1 and len(lost) == 2:
            self.assertEqual(lost[1] - lost[0], 1)

    def test_every_hurt_of_all_short_rows(self):
        for rows in itertools.product(all_bits(2), repeat=2):
            for one in hurts_of(len(carried("100", list(rows)))):
                self.look("100", list(rows), [one])

    def test_every_two_hurts(self):
        for rows in (["01", "1"], ["", "100"], [""]):
            whole = carried("011", rows)
            for one in hurts_of(len(whole)):
                for other in hurts_of(len(hurt_list(whole, one))):
                    self.look("011", rows, [one, other])

    def test_drawn_damage(self):
        drawn = Drawn(95)
        for _ in range(300):
            mark = drawn.item(["100", "1000", "10100", "0010011", "110100"])
            rows = ["".join(drawn.item("01") for _ in range(drawn.below(12))) for _ in range(drawn.below(6))]
            now, hurts = carried(mark, rows), []
            for _ in range(drawn.between(1, 5)):
                if now:
                    hurts.append(drawn.item(hurts_of(len(now))))
                    now = hurt_list(now, hurts[-1])
            self.look(mark, rows, hurts)


def lost_by(lengths, marks):
    return sum(length for at, length in enumerate(lengths) if at in marks or at + 1 in marks)


def most_of_all(lengths, many):
    places = range(len(lengths) + 1)
    return max(lost_by(lengths, marks) for count in range(min(many, len(places)) + 1)
               for marks in itertools.combinations(places, count))


def is_paper(lengths, many, value):
    """The words of the point, for tuples of a whole number and a list of such."""
    least, counts = value
    if least < 0 or len(counts) != len(lengths):
        return False
    if not all(0 <= count <= min(length, least) for count, length in zip(counts, lengths)):
        return False
    if any(counts[at] + counts[at + 1] > least for at in range(len(counts) - 1)):
        return False
    return many * least + sum(length - count for count, length in zip(counts, lengths)) == most_of_all(lengths, many)


class Lost(unittest.TestCase):

    def look(self, lengths, many):
        most = most_of_all(lengths, many)
        self.assertEqual(most_lost(lengths, many), most)
        marks = worst_marks(lengths, many)
        self.assertLessEqual(len(marks), many)
        self.assertEqual(sorted(set(marks)), marks)
        self.assertTrue(all(0 <= mark <= len(lengths) for mark in marks))
        self.assertEqual(lost_by(lengths, marks), most)
        paper = lost_paper(lengths, many)
        self.assertTrue(is_paper(lengths, many, paper), (lengths, many, paper))
        self.assertTrue(is_lost_paper(lengths, many, paper))

    def test_all_small_rows(self):
        for many_rows in range(5):
            for lengths in itertools.product(range(4), repeat=many_rows):
                for many in range(many_rows + 3):
                    self.look(list(lengths), many)

    def test_drawn_rows(self):
        drawn = Drawn(950)
        for _ in range(60):
            lengths = drawn.numbers(drawn.below(9), 0, drawn.item([3, 40, 4095]))
            for many in (0, 1, 2, 3, 4, 5, 10 ** 29):
                self.look(lengths, many)

    def test_no_rows_and_one(self):
        self.assertEqual((most_lost([], 3), worst_marks([], 3), lost_paper([], 3)), (0, [], (0, [])))
        self.assertEqual((most_lost([7], 0), worst_marks([7], 0), lost_paper([7], 0)), (0, [], (7, [7])))
        self.assertEqual((most_lost([7], 1), len(worst_marks([7], 1))), (7, 1))

    def test_the_judge_over_all_small_papers(self):
        for lengths in ([], [2], [1, 3], [2, 0, 1], [2, 3, 2]):
            for many in range(3):
                for least in range(-1, 6):
                    for counts in itertools.product(range(-1, 4), repeat=len(lengths)):
                        value = (least, list(counts))
                        self.assertIs(is_lost_paper(lengths, many, value), is_paper(lengths, many, value), value)
                self.assertFalse(is_lost_paper(lengths, many, (0, [0] * (len(lengths) + 1))))

    def test_bent_papers(self):
        for lengths, many in (([5, 1, 4], 1), ([2, 2, 2, 9], 2), ([0], 0)):
            for value in bent(lost_paper(lengths, many)):
                self.assertIs(is_lost_paper(lengths, many, value), False, value)


class Limits(unittest.TestCase):

    def test_60_rows(self):
        drawn = Drawn(9500)
        for lengths in ([4095] * 60, drawn.numbers(60, 0, 4095), [0] * 60):
            last = -1
            for many in (0, 1, 7, 20, 30, 31, 59, 60, 61, 10 ** 29):
                # The marks tell at least so many, the paper at most so many.
                most, (least, counts) = most_lost(lengths, many), lost_paper(lengths, many)
                self.assertEqual(lost_by(lengths, worst_marks(lengths, many)), most)
                self.assertEqual(many * least + sum(lengths) - sum(counts), most)
                self.assertTrue(all(one + other <= least for one, other in zip(counts, counts[1:])))
                self.assertTrue(is_lost_paper(lengths, many, (least, counts)))
                self.assertGreaterEqual(most, last)
                last = most
            self.assertEqual(last, sum(lengths))


if __name__ == "__main__":
    unittest.main()
