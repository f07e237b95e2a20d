"""Point 5, as far as it speaks of reduce."""

import unittest
from fractions import Fraction

from tests.helper import GREATEST, all_six, doubled, get, halved, last, reduce, rows_call, run, set_call, table_answer, unit
from tests.helper import beside, below

HALF = Fraction(1, 2)


class Reduce(unittest.TestCase):
    def check(self, rows, leading, expected):
        told = run(rows_call(0, rows), reduce(1, 0), get(1), get(0))
        self.assertEqual(told[1:], [[len(leading)] + leading, table_answer(expected), table_answer(rows)])

    def test_full_rank(self):
        self.check([[2, 1], [1, 3]], [0, 1], [[1, 0], [0, 1]])
        self.check([[HALF, 1, 2], [1, Fraction(1, 3), -1]], [0, 1],
                   [[1, 0, -2], [0, 1, 3]])

    def test_rows_are_changed(self):
        self.check([[0, 2, 4], [3, 0, 6]], [0, 1], [[1, 0, 2], [0, 1, 2]])
        self.check([[0, 0, 5], [0, 0, 0], [0, 2, 1]], [1, 2], [[0, 1, 0], [0, 0, 1], [0, 0, 0]])

    def test_free_columns(self):
        self.check([[1, 2, 3], [2, 4, 7], [3, 6, 10]], [0, 2], [[1, 2, 0], [0, 0, 1], [0, 0, 0]])
        self.check([[0, 0, -4, 2]], [2], [[0, 0, 1, -HALF]])
        self.check([[1, 2], [2, 4]], [0], [[1, 2], [0, 0]])

    def test_more_rows_than_columns(self):
        self.check([[0], [0], [-3], [2]], [0], [[1], [0], [0], [0]])

    def test_rank_zero(self):
        self.check([[0, 0], [0, 0]], [], [[0, 0], [0, 0]])
        for h, w in ((0, 0), (0, 4), (4, 0), (6, 0), (0, 6)):
            self.assertEqual(run(set_call(0, h, w), reduce(1, 0), get(1))[1:], [[0], [h, w]])

    def test_six(self):
        hilbert = [[Fraction(1, i + j + 1) for j in range(6)] for i in range(6)]
        self.check(hilbert, [0, 1, 2, 3, 4, 5], [[int(i == j) for j in range(6)] for i in range(6)])

    def test_reduced_stays(self):
        self.check([[1, 0, HALF, 0], [0, 1, -3, 0], [0, 0, 0, 1]], [0, 1, 3],
                   [[1, 0, HALF, 0], [0, 1, -3, 0], [0, 0, 0, 1]])

    def test_same_register(self):
        self.assertEqual(run(rows_call(0, [[0, 2], [0, 6]]), reduce(0, 0), get(0))[1:], [[1, 1], table_answer([[0, 1], [0, 0]])])

    def test_out_of_range(self):
        start = [rows_call(k, [[k + 2]]) for k in range(6)]
        bad = []
        for number in (-1, 6, GREATEST, -GREATEST):
            bad += [reduce(number, 0), reduce(0, number)]
        told = run(*start, *bad, *all_six())
        self.assertEqual(told[6:-6], [[-1]] * len(bad))
        self.assertEqual(told[-6:], [[1, 1, k + 2, 1] for k in range(6)])

    def heavy_row(self, halvings, doublings):
        """1 / 2 ** halvings and 2 ** doublings side by side in register 0."""
        return [rows_call(0, [[1]]), rows_call(1, [[1]]), *halved(0, halvings), *doubled(1, doublings), beside(0, 0, 1)]

    def test_weight(self):
        told = run(*self.heavy_row(998, 1000), reduce(2, 0), get(2))
        self.assertEqual(told[-2:], [[1, 0], [1, 2, 1, 1, 2 ** 1998, 1]])
        told = run(*self.heavy_row(998, 1001), reduce(2, 0), get(2), reduce(0, 0), get(0))
        self.assertEqual(told[-4:], [[-4], [0, 0], [-4], [1, 2, 1, 2 ** 998, 2 ** 1001, 1]])

    def test_range_before_weight(self):
        self.assertEqual(last(*self.heavy_row(998, 1001), reduce(6, 0)), [-1])

    def test_only_the_end_is_weighed(self):
        told = run(*self.heavy_row(998, 1001), rows_call(1, [[0, 7]]), below(0, 0, 1), reduce(0, 0), get(0))
        self.assertEqual(told[-2:], [[2, 0, 1], table_answer([[1, 0], [0, 1]])])

    def test_unit_is_reduced(self):
        self.assertEqual(run(unit(0, 6), reduce(1, 0), get(1))[1:],
                         [[6, 0, 1, 2, 3, 4, 5], table_answer([[int(i == j) for j in range(6)] for i in range(6)])])


if __name__ == "__main__":
    unittest.main()
