"""Point 3: unit, beside, below, part."""

import unittest
from fractions import Fraction

from tests.helper import GREATEST, all_six, below, beside, get, last, part, rows_call, run, set_call, table_answer, unit

HALF = Fraction(1, 2)
GRID = [[1, 2, 3, 4], [5, HALF, 7, 8], [9, 10, 11, -12]]


class Unit(unittest.TestCase):
    def test_every_size(self):
        for n in range(1, 7):
            rows = [[int(i == j) for j in range(n)] for i in range(n)]
            self.assertEqual(run(unit(2, n), get(2)), [[0], table_answer(rows)])
        self.assertEqual(run(rows_call(2, [[1]]), unit(2, 0), get(2))[1:], [[0], [0, 0]])

    def test_out_of_range(self):
        for n in (-1, 7, GREATEST, -GREATEST):
            self.assertEqual(run(unit(0, n), get(0)), [[-1], [0, 0]])
        for r in (-1, 6, GREATEST, -GREATEST):
            self.assertEqual(last(unit(r, 1)), [-1])


class Beside(unittest.TestCase):
    def test_columns_behind(self):
        told = run(rows_call(0, [[1, 2], [3, 4]]), rows_call(1, [[HALF], [6]]), beside(2, 0, 1), get(2), beside(2, 1, 0), get(2))
        self.assertEqual(told[2:], [[0], table_answer([[1, 2, HALF], [3, 4, 6]]), [0], table_answer([[HALF, 1, 2], [6, 3, 4]])])

    def test_same_register(self):
        self.assertEqual(last(rows_call(0, [[1, 2], [3, 4]]), beside(0, 0, 0), get(0)),
                         table_answer([[1, 2, 1, 2], [3, 4, 3, 4]]))

    def test_no_rows_or_no_columns(self):
        self.assertEqual(last(set_call(0, 0, 2), set_call(1, 0, 3), beside(2, 0, 1), get(2)), [0, 5])
        start = [set_call(0, 2, 0), rows_call(1, [[1], [2]])]
        self.assertEqual(last(*start, beside(2, 0, 1), get(2)), table_answer([[1], [2]]))
        self.assertEqual(last(*start, beside(2, 1, 0), get(2)), table_answer([[1], [2]]))

    def test_sizes(self):
        told = run(rows_call(0, [[1, 2]]), rows_call(1, [[1], [2]]), beside(2, 0, 1), beside(2, 0, 3), get(2))
        self.assertEqual(told[2:], [[-8], [-8], [0, 0]])

    def test_six_columns_and_one_more(self):
        start = [rows_call(0, [[1, 2, 3]]), rows_call(1, [[4, 5, 6, 7]])]
        self.assertEqual(last(*start, beside(0, 0, 0), get(0)), table_answer([[1, 2, 3, 1, 2, 3]]))
        self.assertEqual(run(*start, beside(0, 0, 1), get(0))[2:], [[-4], table_answer([[1, 2, 3]])])
        self.assertEqual(last(set_call(0, 0, 3), set_call(1, 0, 4), beside(2, 0, 1)), [-4])
        self.assertEqual(last(unit(0, 6), beside(0, 0, 0)), [-4])

    def test_sizes_before_too_many(self):
        self.assertEqual(last(unit(0, 6), unit(1, 5), beside(2, 0, 1)), [-8])
        self.assertEqual(last(unit(0, 6), unit(1, 5), beside(6, 0, 1)), [-1])


class Below(unittest.TestCase):
    def test_rows_behind(self):
        told = run(rows_call(0, [[1, 2], [3, 4]]), rows_call(1, [[HALF, 6]]), below(2, 0, 1), get(2), below(2, 1, 0), get(2))
        self.assertEqual(told[2:], [[0], table_answer([[1, 2], [3, 4], [HALF, 6]]),
                                    [0], table_answer([[HALF, 6], [1, 2], [3, 4]])])

    def test_same_register(self):
        self.assertEqual(last(rows_call(0, [[1, 2]]), below(0, 0, 0), get(0)), table_answer([[1, 2], [1, 2]]))

    def test_no_rows_or_no_columns(self):
        self.assertEqual(last(set_call(0, 2, 0), set_call(1, 3, 0), below(2, 0, 1), get(2)), [5, 0])
        start = [set_call(0, 0, 2), rows_call(1, [[1, 2]])]
        self.assertEqual(last(*start, below(2, 0, 1), get(2)), table_answer([[1, 2]]))
        self.assertEqual(last(*start, below(2, 1, 0), get(2)), table_answer([[1, 2]]))

    def test_sizes(self):
        told = run(rows_call(0, [[1, 2]]), rows_call(1, [[1], [2]]), below(2, 0, 1), below(2, 0, 3), get(2))
        self.assertEqual(told[2:], [[-8], [-8], [0, 0]])

    def test_six_rows_and_one_more(self):
        start = [rows_call(0, [[1], [2], [3]]), rows_call(1, [[4], [5], [6], [7]])]
        self.assertEqual(last(*start, below(0, 0, 0), get(0)), table_answer([[1], [2], [3], [1], [2], [3]]))
        self.assertEqual(run(*start, below(0, 0, 1), get(0))[2:], [[-4], table_answer([[1], [2], [3]])])
        self.assertEqual(last(set_call(0, 3, 0), set_call(1, 4, 0), below(2, 0, 1)), [-4])

    def test_sizes_before_too_many(self):
        self.assertEqual(last(unit(0, 6), unit(1, 5), below(2, 0, 1)), [-8])
        self.assertEqual(last(unit(0, 6), unit(1, 5), below(2, 0, 6)), [-1])


class Part(unittest.TestCase):
    def test_every_part(self):
        for i in range(4):
            for j in range(5):
                for h in range(1, 4 - i):
                    for w in range(1, 5 - j):
                        told = run(rows_call(0, GRID), part(1, 0, i, j, h, w), get(1), get(0))
                        expected = [row[j:j + w] for row in GRID[i:i + h]]
                        self.assertEqual(told[1:], [[0], table_answer(expected), table_answer(GRID)])

    def test_nothing_of_it(self):
        start = rows_call(0, GRID)
        self.assertEqual(run(start, part(1, 0, 3, 4, 0, 0), get(1))[1:], [[0], [0, 0]])
        self.assertEqual(run(start, part(1, 0, 0, 1, 0, 3), get(1))[1:], [[0], [0, 3]])
        self.assertEqual(run(start, part(1, 0, 0, 4, 3, 0), get(1))[1:], [[0], [3, 0]])
        self.assertEqual(run(part(1, 0, 0, 0, 0, 0), get(1)), [[0], [0, 0]])

    def test_same_register(self):
        self.assertEqual(last(rows_call(0, GRID), part(0, 0, 1, 1, 1, 2), get(0)), table_answer([[HALF, 7]]))

    def test_all_of_six(self):
        self.assertEqual(last(unit(0, 6), part(0, 0, 5, 5, 1, 1), get(0)), [1, 1, 1, 1])
        self.assertEqual(last(unit(0, 6), part(0, 0, 6, 6, 0, 0), get(0)), [0, 0])
        self.assertEqual(run(unit(0, 6), part(0, 0, 0, 0, 6, 6), get(0)), run(unit(0, 6), part(1, 0, 0, 0, 6, 6), get(1)))

    def test_sizes(self):
        for bounds in ((0, 0, 4, 4), (0, 0, 3, 5), (1, 0, 3, 1), (0, 1, 1, 4), (4, 0, 0, 0), (0, 5, 0, 0), (6, 6, 6, 6)):
            self.assertEqual(run(rows_call(0, GRID), part(1, 0, *bounds), get(1))[1:], [[-8], [0, 0]])

    def test_out_of_range(self):
        for number in (-1, 7, GREATEST, -GREATEST):
            for place in range(4):
                bounds = [0, 0, 1, 1]
                bounds[place] = number
                self.assertEqual(run(rows_call(0, GRID), part(1, 0, *bounds), get(1))[1:], [[-1], [0, 0]])

    def test_below_zero_is_not_counted_from_the_end(self):
        self.assertEqual(last(rows_call(0, GRID), part(1, 0, -1, 0, 1, 1)), [-1])


class Registers(unittest.TestCase):
    def test_out_of_range(self):
        start = [rows_call(k, [[k + 1]]) for k in range(6)]
        bad = []
        for number in (-1, 6, GREATEST, -GREATEST):
            for make in (beside, below):
                bad += [make(number, 0, 0), make(0, number, 0), make(0, 0, number)]
            bad += [part(number, 0, 0, 0, 1, 1), part(0, number, 0, 0, 1, 1), unit(number, 1)]
        told = run(*start, *bad, *all_six())
        self.assertEqual(told[6:-6], [[-1]] * len(bad))
        self.assertEqual(told[-6:], [[1, 1, k + 1, 1] for k in range(6)])


if __name__ == "__main__":
    unittest.main()
