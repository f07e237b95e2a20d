"""Points 5, 6 and 7: inverse, solve, kernel."""

import unittest
from fractions import Fraction

from tests.helper import GREATEST, all_six, below, beside, doubled, get, halved, inverse, kernel, last, mul, pairs
from tests.helper import reduce, rows_call, run, set_call, solve, table_answer, turn, unit

HALF = Fraction(1, 2)
THIRD = Fraction(1, 3)


class Inverse(unittest.TestCase):
    def check(self, rows, expected):
        told = run(rows_call(0, rows), inverse(1, 0), get(1), get(0))
        self.assertEqual(told[1:], [[0], table_answer(expected), table_answer(rows)])

    def test_small(self):
        self.check([[4]], [[Fraction(1, 4)]])
        self.check([[Fraction(-2, 3)]], [[Fraction(-3, 2)]])
        self.check([[1, 2], [3, 4]], [[-2, 1], [Fraction(3, 2), -HALF]])
        self.check([[2, 0, 1], [1, 3, 2], [1, 1, 4]],
                   [[Fraction(5, 9), Fraction(1, 18), -Fraction(1, 6)], [-Fraction(1, 9), Fraction(7, 18), -Fraction(1, 6)],
                    [-Fraction(1, 9), -Fraction(1, 9), THIRD]])

    def test_rows_are_changed(self):
        self.check([[0, 2], [5, 0]], [[0, Fraction(1, 5)], [HALF, 0]])
        self.check([[0, 1, 0], [0, 0, 1], [1, 0, 0]], [[0, 0, 1], [1, 0, 0], [0, 1, 0]])

    def test_six(self):
        hilbert = rows_call(0, [[Fraction(1, i + j + 1) for j in range(6)] for i in range(6)])
        told = run(hilbert, inverse(1, 0), mul(2, 1, 0), get(2), mul(2, 0, 1), get(2), get(1))
        self.assertEqual(told[3], table_answer([[int(i == j) for j in range(6)] for i in range(6)]))
        self.assertEqual(told[5], told[3])
        self.assertEqual(told[6][:6], [6, 6, 36, 1, -630, 1])

    def test_same_register(self):
        told = run(rows_call(3, [[1, 1], [0, 2]]), inverse(3, 3), get(3))
        self.assertEqual(told[1:], [[0], table_answer([[1, -HALF], [0, HALF]])])

    def test_nothing_in_it(self):
        self.assertEqual(run(rows_call(0, [[1]]), inverse(0, 1), get(0))[1:], [[0], [0, 0]])

    def test_none(self):
        for rows in ([[0]], [[1, 2], [2, 4]], [[0, 1], [0, 2]], [[1, 2, 3], [4, 5, 6], [7, 8, 9]], [[HALF, 1], [1, 2]]):
            told = run(rows_call(0, rows), rows_call(1, [[9]]), inverse(1, 0), get(1), inverse(0, 0), get(0))
            self.assertEqual(told[2:], [[-9], [1, 1, 9, 1], [-9], table_answer(rows)])

    def test_not_square(self):
        for h, w in ((0, 1), (1, 0), (1, 2), (2, 1), (6, 5), (0, 6)):
            start = set_call(0, h, w, *[0, 1] * (h * w))
            self.assertEqual(run(start, rows_call(1, [[9]]), inverse(1, 0), get(1))[2:], [[-8], [1, 1, 9, 1]])

    def test_weight(self):
        light = [rows_call(0, [[1]]), *halved(0, 1998)]
        self.assertEqual(run(*light, inverse(1, 0), get(1))[-2:], [[0], [1, 1, 2 ** 1998, 1]])
        start = [rows_call(0, [[1, 1], [0, 1]]), *doubled(0, 999), rows_call(1, [[HALF, 0], [0, 1]]), *halved(1, 998)]
        told = run(*start, get(0), mul(0, 0, 1), inverse(2, 0), get(2))
        self.assertEqual(told[-2:], [[0], table_answer([[1, -1], [0, HALF]])])

    def test_too_heavy(self):
        start = [rows_call(0, [[1]]), *doubled(0, 1000), rows_call(1, [[1]]), *halved(1, 999),
                 unit(2, 1), beside(2, 2, 0), rows_call(3, [[0]]), beside(3, 3, 1), below(2, 2, 3)]
        told = run(*start, get(2), inverse(4, 2), get(4), inverse(2, 2), get(2))
        self.assertEqual(told[-5], [2, 2, 1, 1, 2 ** 1000, 1, 0, 1, 1, 2 ** 999])
        self.assertEqual(told[-4:-1], [[-4], [0, 0], [-4]])
        self.assertEqual(told[-1], told[-5])

    def test_none_of_a_heavy_table(self):
        self.assertEqual(last(rows_call(0, [[1, 1], [1, 1]]), *doubled(0, 1998), inverse(1, 0)), [-9])

    def test_range_before_all(self):
        self.assertEqual(last(rows_call(0, [[1, 2]]), inverse(6, 0)), [-1])
        self.assertEqual(last(rows_call(0, [[0]]), inverse(-1, 0)), [-1])


class Solve(unittest.TestCase):
    def check(self, p, q, answer, x):
        told = run(rows_call(0, p), rows_call(1, q), solve(2, 0, 1), get(2), get(0), get(1))
        self.assertEqual(told[2:], [[answer], table_answer(x) if x else [0, 0], table_answer(p), table_answer(q)])
        if x:
            self.assertEqual(last(rows_call(0, p), rows_call(1, x), mul(2, 0, 1), get(2)), table_answer(q))

    def test_one_solution(self):
        self.check([[2]], [[3]], 0, [[Fraction(3, 2)]])
        self.check([[1, 2], [3, 4]], [[5], [6]], 0, [[-4], [Fraction(9, 2)]])
        self.check([[0, 2], [3, 0]], [[1, 4], [1, 5]], 0, [[THIRD, Fraction(5, 3)], [HALF, 2]])
        self.check([[HALF, THIRD], [1, -1]], [[1], [0]], 0, [[Fraction(6, 5)], [Fraction(6, 5)]])

    def test_no_solution(self):
        self.check([[0]], [[1]], 1, None)
        self.check([[1, 2], [2, 4]], [[1], [3]], 1, None)
        self.check([[1], [1]], [[1], [2]], 1, None)
        self.check([[1, 2], [2, 4]], [[1, 1], [2, 3]], 1, None)
        self.check([[1, 0, 2], [0, 1, 1], [1, 1, 3]], [[1], [1], [1]], 1, None)

    def test_many_solutions(self):
        self.check([[0]], [[0]], 2, [[0]])
        self.check([[1, 2], [2, 4]], [[1], [2]], 2, [[1], [0]])
        self.check([[0, 2, 4]], [[6]], 2, [[0], [3], [0]])
        self.check([[1, 0, 2], [0, 1, 1], [1, 1, 3]], [[1, 5], [1, 6], [2, 11]], 2, [[1, 5], [1, 6], [0, 0]])
        self.check([[0, 0, 3], [0, 0, 0]], [[1], [0]], 2, [[0], [0], [THIRD]])

    def test_more_rows_than_columns(self):
        self.check([[1, 1], [1, -1], [2, 0]], [[3], [1], [4]], 0, [[2], [1]])
        self.check([[1, 1], [1, -1], [2, 0]], [[3], [1], [5]], 1, None)
        self.check([[0, 1], [0, 2], [0, 3]], [[1], [2], [3]], 2, [[0], [1]])

    def test_more_columns_than_rows(self):
        self.check([[1, 2, 3], [0, 1, 4]], [[1], [2]], 2, [[-3], [2], [0]])
        self.check([[1, 2, 3], [2, 4, 6]], [[1], [3]], 1, None)
        self.check([[0, 0, 1, 0, 0, 2]], [[7, HALF, 0]], 2, [[0] * 3, [0] * 3, [7, HALF, 0], [0] * 3, [0] * 3, [0] * 3])

    def test_six_and_six(self):
        hilbert = [[Fraction(1, i + j + 1) for j in range(6)] for i in range(6)]
        told = run(rows_call(0, hilbert), unit(1, 6), solve(2, 0, 1), inverse(3, 0), get(2), get(3), solve(4, 0, 0), get(4))
        self.assertEqual([told[2], told[6]], [[0], [0]])
        self.assertEqual(told[4], told[5])
        self.assertEqual(told[7], table_answer([[int(i == j) for j in range(6)] for i in range(6)]))

    def test_nothing_is_put_where_there_is_none(self):
        start = [rows_call(0, [[1], [1]]), rows_call(1, [[1], [2]])]
        told = run(*start, solve(0, 0, 1), solve(1, 0, 1), solve(5, 0, 1), *all_six())
        self.assertEqual(told[2:], [[1]] * 3 + [table_answer([[1], [1]]), table_answer([[1], [2]])] + [[0, 0]] * 4)

    def test_no_rows_or_no_columns(self):
        self.assertEqual(run(solve(0, 1, 2), get(0)), [[0], [0, 0]])
        told = run(set_call(0, 0, 2), set_call(1, 0, 3), solve(2, 0, 1), get(2), solve(2, 1, 0), get(2))
        self.assertEqual(told[2:], [[2], table_answer([[0] * 3] * 2), [2], table_answer([[0] * 2] * 3)])
        self.assertEqual(run(set_call(0, 0, 2), solve(2, 0, 1), get(2))[1:], [[2], [2, 0]])
        self.assertEqual(run(set_call(0, 0, 2), solve(2, 1, 0), get(2))[1:], [[0], [0, 2]])
        told = run(set_call(0, 2, 0), rows_call(1, [[0, 0, 0], [0, 0, 0]]), solve(2, 0, 1), get(2), solve(3, 1, 0), get(3))
        self.assertEqual(told[2:], [[0], [0, 3], [2], [3, 0]])
        told = run(set_call(0, 2, 0), rows_call(1, [[0], [1]]), solve(2, 0, 1), get(2), solve(2, 0, 0), get(2))
        self.assertEqual(told[2:], [[1], [0, 0], [0], [0, 0]])
        self.assertEqual(run(unit(0, 2), set_call(1, 2, 0), solve(1, 0, 1), get(1))[2:], [[0], [2, 0]])

    def test_same_registers(self):
        rows = [[1, 2], [2, 4]]
        self.assertEqual(run(rows_call(0, rows), solve(0, 0, 0), get(0))[1:], [[2], table_answer([[1, 2], [0, 0]])])
        start = [rows_call(0, [[2, 0], [0, 4]]), rows_call(1, [[1, 1], [1, 1]])]
        expected = table_answer([[HALF, HALF], [Fraction(1, 4), Fraction(1, 4)]])
        self.assertEqual(run(*start, solve(0, 0, 1), get(0), get(1))[2:], [[0], expected, table_answer([[1, 1], [1, 1]])])
        self.assertEqual(run(*start, solve(1, 0, 1), get(0), get(1))[2:], [[0], table_answer([[2, 0], [0, 4]]), expected])

    def test_sizes(self):
        for p, q in (((1, 2), (2, 2)), ((0, 1), (1, 1)), ((2, 0), (0, 2)), ((6, 6), (5, 6))):
            start = [set_call(0, *p, *[1, 1] * (p[0] * p[1])), set_call(1, *q, *[1, 1] * (q[0] * q[1]))]
            self.assertEqual(run(*start, solve(2, 0, 1), get(2))[2:], [[-8], [0, 0]])

    def heavy(self, exponent):
        """1 / 2 ** 1000 in register 0, 2 ** exponent in register 1."""
        return [rows_call(0, [[1]]), *halved(0, 1000), rows_call(1, [[1]]), *doubled(1, exponent)]

    def test_weight(self):
        self.assertEqual(run(*self.heavy(998), solve(2, 0, 1), get(2))[-2:], [[0], [1, 1, 2 ** 1998, 1]])
        told = run(*self.heavy(999), solve(2, 0, 1), solve(1, 0, 1), get(2), get(1))
        self.assertEqual(told[-4:], [[-4], [-4], [0, 0], [1, 1, 2 ** 999, 1]])

    def test_weight_where_there_are_many(self):
        calls = [*self.heavy(999), rows_call(2, [[0]]), beside(0, 0, 2), solve(2, 0, 1), get(2)]
        self.assertEqual(run(*calls)[-2:], [[-4], [1, 1, 0, 1]])

    def test_none_though_it_would_be_heavy(self):
        calls = [*self.heavy(999), rows_call(2, [[0]]), below(0, 0, 2), rows_call(2, [[1]]), below(1, 1, 2),
                 solve(3, 0, 1), get(3)]
        self.assertEqual(run(*calls)[-2:], [[1], [0, 0]])

    def test_sizes_before_weight(self):
        calls = [*self.heavy(999), below(1, 1, 1), solve(2, 0, 1)]
        self.assertEqual(last(*calls), [-8])

    def test_range_before_all(self):
        start = [rows_call(0, [[1], [1]]), rows_call(1, [[1], [2]])]
        self.assertEqual(run(*start, solve(6, 0, 1), solve(-1, 0, 2))[2:], [[-1], [-1]])


class Kernel(unittest.TestCase):
    def check(self, rows, expected):
        told = run(rows_call(0, rows), kernel(1, 0), get(1), get(0))
        self.assertEqual(told[1:], [[len(expected[0])], table_answer(expected), table_answer(rows)])
        told = last(rows_call(0, rows), rows_call(1, expected), mul(2, 0, 1), get(2))
        self.assertEqual(told, table_answer([[0] * len(expected[0])] * len(rows)))

    def test_square(self):
        self.check([[1, 2], [2, 4]], [[-2], [1]])
        self.check([[1, 2, 3], [4, 5, 6], [7, 8, 9]], [[1], [-2], [1]])
        self.check([[0, 0], [0, 0]], [[1, 0], [0, 1]])
        self.check([[0, 3], [0, 5]], [[1], [0]])

    def test_more_columns_than_rows(self):
        self.check([[2, 1, 3]], [[-HALF, Fraction(-3, 2)], [1, 0], [0, 1]])
        self.check([[0, 2, 4, 0, 1], [0, 0, 0, 3, 1]],
                   [[1, 0, 0], [0, -2, -HALF], [0, 1, 0], [0, 0, -THIRD], [0, 0, 1]])
        self.check([[1, 2, 3], [0, 1, 4]], [[5], [-4], [1]])

    def test_more_rows_than_columns(self):
        self.check([[1, 2], [2, 4], [-HALF, -1]], [[-2], [1]])
        self.check([[0], [0], [0]], [[1]])

    def test_no_free_column(self):
        for rows in ([[5]], [[1, 2], [3, 4]], [[1, 0], [0, 1], [1, 1]]):
            told = run(rows_call(0, rows), rows_call(1, [[9]]), kernel(1, 0), get(1))
            self.assertEqual(told[2:], [[0], [len(rows[0]), 0]])

    def test_no_rows_or_no_columns(self):
        self.assertEqual(run(rows_call(1, [[9]]), kernel(1, 0), get(1))[1:], [[0], [0, 0]])
        self.assertEqual(run(set_call(0, 0, 2), kernel(1, 0), get(1))[1:], [[2], table_answer([[1, 0], [0, 1]])])
        self.assertEqual(run(set_call(0, 0, 6), kernel(1, 0), get(1))[1],  [6])
        self.assertEqual(run(set_call(0, 3, 0), rows_call(1, [[9]]), kernel(1, 0), get(1))[2:], [[0], [0, 0]])

    def test_same_register(self):
        self.assertEqual(run(rows_call(4, [[1, 2, 3]]), kernel(4, 4), get(4))[1:],
                         [[2], table_answer([[-2, -3], [1, 0], [0, 1]])])

    def test_with_the_rank_all_columns(self):
        rows = [[1, 2, 0, 1, 3, 1], [2, 4, 1, 1, 3, 0], [3, 6, 1, 2, 6, 1], [0, 0, 1, -1, -3, -2]]
        told = run(rows_call(0, rows), reduce(1, 0), kernel(2, 0), mul(3, 0, 2), get(3), turn(3, 2), reduce(3, 3))
        self.assertEqual(told[1], [2, 0, 2])
        self.assertEqual(told[2], [4])
        self.assertEqual(told[4], table_answer([[0] * 4] * 4))
        self.assertEqual(told[6][0], 4)

    def heavy(self, exponent):
        """1 / 2 ** 1000 and 2 ** exponent side by side in register 0."""
        return [rows_call(0, [[1]]), *halved(0, 1000), rows_call(1, [[1]]), *doubled(1, exponent), beside(0, 0, 1)]

    def test_weight(self):
        self.assertEqual(run(*self.heavy(998), kernel(2, 0), get(2))[-2:], [[1], [2, 1, -2 ** 1998, 1, 1, 1]])
        told = run(*self.heavy(999), kernel(2, 0), kernel(0, 0), get(2), get(0))
        self.assertEqual(told[-4:], [[-4], [-4], [0, 0], [1, 2, 1, 2 ** 1000, 2 ** 999, 1]])

    def test_range_before_weight(self):
        self.assertEqual(last(*self.heavy(999), kernel(6, 0)), [-1])


class OutOfRange(unittest.TestCase):
    def test_each_register(self):
        start = [rows_call(k, [[k + 1]]) for k in range(6)]
        bad = []
        for number in (-1, 6, GREATEST, -GREATEST):
            bad += [inverse(number, 0), inverse(0, number), kernel(number, 0), kernel(0, number)]
            bad += [solve(number, 0, 1), solve(0, number, 1), solve(0, 1, number)]
        told = run(*start, *bad, *all_six())
        self.assertEqual(told[6:-6], [[-1]] * len(bad))
        self.assertEqual(told[-6:], [[1, 1] + pairs([k + 1]) for k in range(6)])


if __name__ == "__main__":
    unittest.main()
