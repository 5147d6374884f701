"""[98]: tables of starts, their least steps, how many there are, and papers."""

import itertools
import unittest

from wholesound.errors import InvalidNumber
from wholesound.seeking import how_many_tables, is_table_paper, least_step, table, table_at, table_paper

from tests.drawn import Drawn
from tests.odd import bent


def step_of(chosen, total):
    return max(end - start for start, end in zip(chosen, chosen[1:] + [total]))


def tables_of(starts, many):
    return [[0] + list(more) for more in itertools.combinations(starts[1:], many - 1)]


def small_starts():
    for more in range(4):
        for chosen in itertools.combinations(range(1, 7), more):
            for total in range(max(chosen, default=0) + 1, 9):
                yield [0] + list(chosen), total


def is_paper(starts, total, many, step, value):
    """The words of the point, for tuples of the right kinds."""
    ends = starts[1:] + [total]
    kind, told = value
    if kind == "one":
        return 0 <= told < len(starts) and ends[told] - starts[told] == step
    behind = 0
    for low, high in told:
        if not behind <= low < high < len(starts) or ends[high] - starts[low] < step:
            return False
        behind = high
    return len(told) == many


class Tables(unittest.TestCase):

    def look(self, starts, total, many):
        tables = tables_of(starts, many)
        step = min(step_of(chosen, total) for chosen in tables)
        best = [chosen for chosen in tables if step_of(chosen, total) == step]
        self.assertEqual(least_step(starts, total, many), step)
        self.assertIn(table(starts, total, many), best)
        self.assertEqual(how_many_tables(starts, total, many), len(best))
        self.assertEqual([table_at(starts, total, many, number) for number in range(len(best))], sorted(best))
        self.assertRaises(InvalidNumber, table_at, starts, total, many, len(best))
        paper = table_paper(starts, total, many)
        self.assertTrue(is_paper(starts, total, many, step, paper), (starts, total, many, paper))
        self.assertTrue(is_table_paper(starts, total, many, paper))

    def test_all_small_starts(self):
        for starts, total in small_starts():
            for many in range(1, len(starts) + 1):
                self.look(starts, total, many)

    def test_drawn_starts(self):
        drawn = Drawn(98)
        for _ in range(80):
            far = drawn.item([20, 1000, 10 ** 30 - 1])
            starts = sorted({0} | {drawn.between(1, far - 1) for _ in range(drawn.below(8))})
            for many in range(1, len(starts) + 1):
                self.look(starts, starts[-1] + drawn.between(1, far), many)

    def test_one_start(self):
        self.assertEqual((least_step([0], 7, 1), table([0], 7, 1), how_many_tables([0], 7, 1), table_at([0], 7, 1, 0),
                          table_paper([0], 7, 1)), (7, [0], 1, [0], ("one", 0)))

    def test_one_place_and_as_many_as_starts(self):
        starts = [0, 3, 4, 9]
        self.assertEqual((least_step(starts, 10, 1), table(starts, 10, 1)), (10, [0]))
        self.assertEqual((least_step(starts, 10, 4), table(starts, 10, 4), table_paper(starts, 10, 4)), (5, starts, ("one", 2)))

    def test_the_first_and_the_last_table(self):
        starts, total = list(range(10)), 10
        many = how_many_tables(starts, total, 4)
        self.assertEqual(table_at(starts, total, 4, 0), min(one for one in tables_of(starts, 4) if step_of(one, 10) == 3))
        self.assertEqual(table_at(starts, total, 4, many - 1), max(one for one in tables_of(starts, 4) if step_of(one, 10) == 3))


class Judge(unittest.TestCase):

    def test_all_small_papers(self):
        for starts, total in (([0], 3), ([0, 1], 3), ([0, 2, 3], 5), ([0, 1, 2, 3], 4), ([0, 3, 4, 9], 10)):
            pairs = list(itertools.product(range(-1, len(starts) + 1), repeat=2))
            for many in range(1, min(len(starts), 3) + 1):
                step = least_step(starts, total, many)
                for at in range(-1, len(starts) + 1):
                    value = ("one", at)
                    self.assertIs(is_table_paper(starts, total, many, value), is_paper(starts, total, many, step, value))
                for count in range(3):
                    for runs in itertools.product(pairs, repeat=count):
                        value = ("runs", list(runs))
                        self.assertIs(is_table_paper(starts, total, many, value),
                                      is_paper(starts, total, many, step, value), (starts, total, many, value))

    def test_papers_of_both_kinds_bent(self):
        starts = [0, 3, 4, 9]
        for many, value in ((2, ("runs", [(0, 2), (2, 3)])), (3, ("one", 2)), (1, ("runs", [(0, 3)]))):
            self.assertIs(is_table_paper(starts, 10, many, value), True)
            for other in bent(value) + [value[:1], value + (0,), list(value), (value[0] + "s", value[1])]:
                self.assertIs(is_table_paper(starts, 10, many, other), False, other)

    def test_a_run_has_an_order_and_room(self):
        starts = [0, 3, 4, 9]
        for runs in ([(2, 3), (0, 2)], [(0, 2), (1, 3)], [(0, 2)], [(0, 2), (2, 3), (3, 3)], [(2, 0), (2, 3)], [(0, 0), (0, 3)],
                     [(0, 2), (2, 4)], [(-1, 2), (2, 3)]):
            self.assertIs(is_table_paper(starts, 10, 2, ("runs", runs)), False, runs)


class Limits(unittest.TestCase):

    def test_60_starts_and_any_number(self):
        drawn = Drawn(980)
        uneven = sorted({0} | {drawn.between(1, 10 ** 30 - 2) for _ in range(200)})[:60]
        for starts, total in (([10 * at for at in range(60)], 600), (uneven, 10 ** 30 - 1)):
            last = total + 1
            for many in range(1, 61):
                step = least_step(starts, total, many)
                self.assertLessEqual(step, last)
                last = step
                chosen = table(starts, total, many)
                self.assertEqual((len(chosen), step_of(chosen, total)), (many, step))
                self.assertTrue(is_paper(starts, total, many, step, table_paper(starts, total, many)))
                self.assertTrue(is_table_paper(starts, total, many, table_paper(starts, total, many)))
            for many in (1, 13, 30, 59, 60):
                count = how_many_tables(starts, total, many)
                tables = [table_at(starts, total, many, number) for number in sorted({0, count // 2, count - 1})]
                self.assertEqual(tables, sorted(tables))
                for chosen in tables:
                    self.assertEqual((len(chosen), step_of(chosen, total)), (many, least_step(starts, total, many)))


if __name__ == "__main__":
    unittest.main()
