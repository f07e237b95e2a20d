"""Point 4: power."""

import unittest
from fractions import Fraction

from tests.helper import GREATEST, all_six, doubled, get, last, mul, power, rows_call, run, set_call, table_answer, unit

HALF = Fraction(1, 2)


class Power(unittest.TestCase):
    def test_fibonacci(self):
        told = run(rows_call(0, [[1, 1], [1, 0]]), power(1, 0, 12), get(1), get(0))
        self.assertEqual(told[1:], [[0], table_answer([[233, 144], [144, 89]]), table_answer([[1, 1], [1, 0]])])

    def test_fractions(self):
        told = last(rows_call(0, [[HALF, 1], [0, -HALF]]), power(1, 0, 3), get(1))
        self.assertEqual(told, table_answer([[Fraction(1, 8), Fraction(1, 4)], [0, Fraction(-1, 8)]]))

    def test_as_many_factors_as_told(self):
        start = rows_call(0, [[1, 2, HALF], [0, Fraction(2, 3), -1], [4, 0, 1]])
        factors = []
        for k in range(1, 13):
            by_hand = last(start, unit(1, 3), *[mul(1, 1, 0)] * k, get(1))
            factors.append(by_hand)
            self.assertEqual(last(start, power(2, 0, k), get(2)), by_hand)
        self.assertEqual(len({tuple(made) for made in factors}), 12)

    def test_no_factors_give_the_unit_table(self):
        told = run(rows_call(0, [[0, 0], [7, 0]]), power(0, 0, 0), get(0))
        self.assertEqual(told[1:], [[0], table_answer([[1, 0], [0, 1]])])
        self.assertEqual(run(power(0, 1, 0), get(0)), [[0], [0, 0]])

    def test_one_factor(self):
        self.assertEqual(last(rows_call(0, [[3, HALF], [1, 2]]), power(1, 0, 1), get(1)), table_answer([[3, HALF], [1, 2]]))

    def test_same_register(self):
        self.assertEqual(last(rows_call(0, [[2]]), power(0, 0, 12), get(0)), [1, 1, 4096, 1])

    def test_nothing_in_it(self):
        self.assertEqual(run(power(0, 0, 12), get(0)), [[0], [0, 0]])

    def test_six(self):
        shift = [[int(j == (i + 1) % 6) for j in range(6)] for i in range(6)]
        back = [[int(j == (i + 5) % 6) for j in range(6)] for i in range(6)]
        self.assertEqual(last(rows_call(0, shift), power(0, 0, 11), get(0)), table_answer(back))

    def test_not_square(self):
        for k in (0, 1, 12):
            self.assertEqual(run(rows_call(0, [[1, 2]]), power(1, 0, k), get(1))[1:], [[-8], [0, 0]])
            self.assertEqual(last(set_call(0, 0, 1), power(1, 0, k)), [-8])
            self.assertEqual(last(set_call(0, 1, 0), power(1, 0, k)), [-8])

    def test_out_of_range(self):
        start = [rows_call(k, [[k + 2]]) for k in range(6)]
        bad = [power(0, 1, k) for k in (-1, 13, GREATEST, -GREATEST)]
        for number in (-1, 6, GREATEST, -GREATEST):
            bad += [power(number, 0, 2), power(0, number, 2)]
        told = run(*start, *bad, *all_six())
        self.assertEqual(told[6:-6], [[-1]] * len(bad))
        self.assertEqual(told[-6:], [[1, 1, k + 2, 1] for k in range(6)])

    def test_range_before_sizes(self):
        self.assertEqual(last(rows_call(0, [[1, 2]]), power(1, 0, 13)), [-1])
        self.assertEqual(last(rows_call(0, [[1, 2]]), power(6, 0, 1)), [-1])

    def test_sizes_before_weight(self):
        self.assertEqual(last(rows_call(0, [[1, 2]]), *doubled(0, 1990), power(1, 0, 12)), [-8])

    def test_weight(self):
        start = [rows_call(0, [[2]]), *doubled(0, 998)]
        told = run(*start, power(1, 0, 2), get(1))
        self.assertEqual(told[-2:], [[0], [1, 1, 2 ** 1998, 1]])
        start = [rows_call(0, [[2]]), *doubled(0, 999)]
        self.assertEqual(run(*start, power(1, 0, 2), power(0, 0, 12), power(2, 0, 1), get(0), get(1), get(2))[-6:],
                         [[-4], [-4], [0], [1, 1, 2 ** 1000, 1], [0, 0], [1, 1, 2 ** 1000, 1]])

    def test_only_the_end_is_weighed(self):
        start = [rows_call(0, [[0, 1, 0], [0, 0, 1], [0, 0, 0]]), *doubled(0, 1900)]
        zeros = table_answer([[0, 0, 0]] * 3)
        self.assertEqual(run(*start, power(1, 0, 2), power(1, 0, 3), get(1), power(2, 0, 12), get(2))[-5:],
                         [[-4], [0], zeros, [0], zeros])


if __name__ == "__main__":
    unittest.main()
