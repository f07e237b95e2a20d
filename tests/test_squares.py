"""Points 5 and 8 and 9: det, leading, char, trace, same."""

import unittest
from fractions import Fraction

from tests.helper import GREATEST, add, all_six, below, beside, char, det, doubled, expanded, get, halved, inverse, last
from tests.helper import leading, mul, pairs, power, rows_call, run, same, scale, set_call, sub, table_answer, trace
from tests.helper import turn, unit

HALF = Fraction(1, 2)
THIRD = Fraction(1, 3)
NOT_SQUARE = ((0, 1), (1, 0), (1, 2), (2, 1), (6, 0), (0, 6), (5, 6))


def filled(r, h, w):
    return set_call(r, h, w, *[1, 1] * (h * w))


def diagonal(r, *exponents):
    """Calls that put 2 to each of these powers into the diagonal of register r; registers 4 and 5 are used too."""
    calls = [set_call(r, 0, len(exponents))]
    for place, exponent in enumerate(exponents):
        calls += [rows_call(4, [[int(k == place) for k in range(len(exponents))]]), *doubled(4, exponent), below(r, r, 4)]
    return calls


class Det(unittest.TestCase):
    def check(self, rows, expected):
        told = run(rows_call(3, rows), det(3), get(3))
        self.assertEqual(told[1:], [[0] + pairs([expected]), table_answer(rows)])

    def test_small(self):
        self.check([[7]], 7)
        self.check([[-HALF]], -HALF)
        self.check([[1, 2], [3, 4]], -2)
        self.check([[HALF, THIRD], [Fraction(1, 4), Fraction(1, 5)]], Fraction(1, 60))
        self.check([[2, 0, 1], [1, 3, 2], [1, 1, 4]], 18)

    def test_the_sign_of_changed_rows(self):
        self.check([[0, 1], [1, 0]], -1)
        self.check([[0, 1, 0], [0, 0, 1], [1, 0, 0]], 1)
        self.check([[0, 0, 5], [0, 3, 0], [2, 0, 0]], -30)
        self.check([[0, 0, 0, 1], [0, 0, 1, 0], [0, 1, 0, 0], [1, 0, 0, 0]], 1)

    def test_zero(self):
        self.check([[0]], 0)
        self.check([[1, 2], [2, 4]], 0)
        self.check([[0, 0], [0, 1]], 0)
        self.check([[1, 2, 3], [4, 5, 6], [7, 8, 9]], 0)
        self.check([[HALF, 1], [1, 2]], 0)

    def test_six(self):
        self.check([[Fraction(1, i + j + 1) for j in range(6)] for i in range(6)], Fraction(1, 186313420339200000))
        self.check([[int(j == (i + 1) % 6) for j in range(6)] for i in range(6)], -1)
        rows = [[Fraction((i * 7 + j * j * 3 + i * j) % 11 - 5, i + 2 * j + 1) for j in range(6)] for i in range(6)]
        self.assertNotEqual(expanded(rows), 0)
        self.check(rows, expanded(rows))

    def test_nothing_in_it(self):
        self.assertEqual(last(det(0)), [0, 1, 1])

    def test_not_square(self):
        for h, w in NOT_SQUARE:
            self.assertEqual(last(filled(0, h, w), det(0)), [-8])

    def test_weight(self):
        told = run(rows_call(0, [[-1]]), *doubled(0, 1998), det(0))
        self.assertEqual(told[-1], [0, -2 ** 1998, 1])
        self.assertEqual(last(*diagonal(0, 1000, 998), det(0)), [0, 2 ** 1998, 1])
        told = run(*diagonal(0, 1000, 999), get(0), det(0), get(0))
        self.assertEqual(told[-2], [-4])
        self.assertEqual(told[-1], told[-3])

    def test_the_denominator_weighs_too(self):
        self.assertEqual(last(unit(0, 2), *halved(0, 999), det(0)), [0, 1, 2 ** 1998])
        self.assertEqual(last(rows_call(0, [[3, 0], [0, HALF]]), *halved(0, 998), det(0)), [0, 3, 2 ** 1997])
        self.assertEqual(last(rows_call(0, [[3, 0], [0, 1]]), *halved(0, 999), det(0)), [-4])

    def test_heavy_terms_may_cancel(self):
        self.assertEqual(last(rows_call(0, [[1, 1], [1, 1]]), *doubled(0, 1998), det(0)), [0, 0, 1])

    def test_sizes_before_weight(self):
        self.assertEqual(last(rows_call(0, [[1, 2, 3], [4, 5, 6]]), *doubled(0, 1990), det(0)), [-8])


class Leading(unittest.TestCase):
    def check(self, rows, odd, numbers):
        told = run(rows_call(2, rows), leading(2), get(2))
        self.assertEqual(told[1:], [[odd, len(numbers)] + numbers, table_answer(rows)])

    def test_no_change_of_rows(self):
        self.check([[5]], 0, [5])
        self.check([[2, 1], [1, 3]], 0, [2, 5])
        self.check([[2, 0, 1], [1, 3, 2], [1, 1, 4]], 0, [2, 6, 18])
        self.check([[-3, 1], [2, 4]], 0, [-3, -14])

    def test_one_change(self):
        self.check([[0, 2], [3, 4]], 1, [3, 6])
        self.check([[0, 1, 2], [0, 3, 4], [5, 6, 7]], 1, [5, 15, 10])
        self.check([[0, 2, 1], [1, 0, 0], [3, 0, 4]], 1, [1, 2, 8])
        self.check([[1, 2, 3], [2, 4, 7], [1, 1, 1]], 1, [1, -1, -1])

    def test_two_changes(self):
        self.check([[0, 1, 0], [0, 0, 1], [1, 0, 0]], 0, [1, 1, 1])
        self.check([[0, 0, 1], [1, 2, 3], [2, 5, 1]], 0, [1, 1, 1])
        self.check([[0, 0, 2], [3, 0, 0], [0, 5, 0]], 0, [3, 15, 30])

    def test_three_changes(self):
        shift = [[int(j == (i + 1) % 4) for j in range(4)] for i in range(4)]
        self.check(shift, 1, [1, 1, 1, 1])

    def test_a_zero_ends_it(self):
        self.check([[0]], 0, [0])
        self.check([[0, 1], [0, 2]], 0, [0])
        self.check([[1, 2], [2, 4]], 0, [1, 0])
        self.check([[0, 0, 1], [0, 0, 2], [0, 0, 3]], 0, [0])
        self.check([[0, 3, 1], [2, 3, 5], [2, 3, 5]], 1, [2, 6, 0])
        self.check([[1, 2, 3, 9], [2, 4, 6, 8], [3, 6, 9, 7], [1, 2, 3, 6]], 0, [1, 0])
        self.check([[0] * 6 for i in range(6)], 0, [0])

    def test_the_last_may_be_zero(self):
        self.check([[1, 2, 3], [4, 5, 6], [7, 8, 9]], 0, [1, -3, 0])

    def test_divided_by_the_number_before(self):
        self.check([[2, 3, 5, 7], [11, 13, 17, 19], [23, 29, 31, 37], [41, 43, 47, 53]], 0, [2, -7, 70, 880])

    def test_nothing_in_it(self):
        self.assertEqual(last(leading(0)), [0, 0])

    def test_greatest_numbers(self):
        self.check([[GREATEST, -GREATEST], [GREATEST, GREATEST]], 0, [GREATEST, 2 * GREATEST ** 2])

    def test_far_above_the_weight(self):
        told = run(*diagonal(0, 1998, 1998, 1998, 1998, 1998, 1998), leading(0), det(0))
        self.assertEqual(told[-2], [0, 6] + [2 ** (1998 * (k + 1)) for k in range(6)])
        self.assertEqual(told[-1], [-4])
        told = run(rows_call(0, [[0, 1], [-1, 1]]), *doubled(0, 1998), leading(0))
        self.assertEqual(told[-1], [1, 2, -2 ** 1998, -2 ** 3996])

    def test_not_whole(self):
        for rows in ([[HALF]], [[1, 0], [0, THIRD]], [[0, HALF], [0, 0]], [[1, 2], [2, Fraction(9, 2)]]):
            self.assertEqual(run(rows_call(0, rows), leading(0), get(0))[1:], [[-9], table_answer(rows)])

    def test_whole_in_lowest_terms(self):
        self.assertEqual(last(set_call(0, 1, 1, 6, 3), leading(0)), [0, 1, 2])

    def test_not_square(self):
        for h, w in NOT_SQUARE:
            self.assertEqual(last(filled(0, h, w), leading(0)), [-8])

    def test_sizes_before_whole_entries(self):
        self.assertEqual(last(rows_call(0, [[HALF, 1]]), leading(0)), [-8])


class Char(unittest.TestCase):
    def check(self, rows, numbers):
        told = run(rows_call(1, rows), char(1), get(1))
        self.assertEqual(told[1:], [[len(numbers)] + pairs(numbers), table_answer(rows)])

    def test_small(self):
        self.check([[5]], [1, -5])
        self.check([[1, 2], [3, 4]], [1, -5, -2])
        self.check([[HALF, THIRD], [1, 0]], [1, -HALF, -THIRD])
        self.check([[2, 0, 1], [1, 3, 2], [1, 1, 4]], [1, -9, 23, -18])
        self.check([[0, 1], [0, 0]], [1, 0, 0])

    def test_companion(self):
        given = [3, -HALF, 7, 0, Fraction(2, 9), -1]
        rows = [[int(j == i + 1) for j in range(6)] for i in range(5)] + [[-c for c in reversed(given)]]
        self.check(rows, [1] + given)

    def test_six(self):
        self.check([[int(i == j) for j in range(6)] for i in range(6)], [1, -6, 15, -20, 15, -6, 1])
        self.check([[Fraction(i + 1, 2) * int(i == j) for j in range(6)] for i in range(6)],
                   [1, Fraction(-21, 2), Fraction(175, 4), Fraction(-735, 8), Fraction(1624, 16), Fraction(-1764, 32),
                    Fraction(720, 64)])

    def test_the_table_solves_its_own_equation(self):
        rows = [[HALF, 2, 0], [-1, THIRD, 4], [5, 0, -2]]
        numbers = last(rows_call(0, rows), char(0))[1:]
        calls = [rows_call(0, rows), set_call(1, 3, 3, *[0, 1] * 9)]
        for k in range(4):
            calls += [power(2, 0, 3 - k), scale(2, 2, numbers[2 * k], numbers[2 * k + 1]), add(1, 1, 2)]
        self.assertEqual(last(*calls, get(1)), table_answer([[0] * 3] * 3))

    def test_nothing_in_it(self):
        self.assertEqual(last(char(0)), [1, 1, 1])

    def test_not_square(self):
        for h, w in NOT_SQUARE:
            self.assertEqual(last(filled(0, h, w), char(0)), [-8])

    def test_weight(self):
        self.assertEqual(last(*diagonal(0, 999, 999), char(0)), [3, 1, 1, -2 ** 1000, 1, 2 ** 1998, 1])
        told = run(*diagonal(0, 1000, 999), get(0), char(0), get(0))
        self.assertEqual(told[-2], [-4])
        self.assertEqual(told[-1], told[-3])
        self.assertEqual(last(*diagonal(0, 1998, 1998), char(0)), [-4])
        self.assertEqual(last(rows_call(0, [[1]]), *halved(0, 1998), char(0)), [2, 1, 1, -1, 2 ** 1998])

    def test_sizes_before_weight(self):
        self.assertEqual(last(rows_call(0, [[1, 2]]), *doubled(0, 1990), char(0)), [-8])


class Trace(unittest.TestCase):
    def check(self, rows, expected):
        told = run(rows_call(5, rows), trace(5), get(5))
        self.assertEqual(told[1:], [[0] + pairs([expected]), table_answer(rows)])

    def test_sums(self):
        self.check([[7]], 7)
        self.check([[1, 100], [100, -3]], -2)
        self.check([[HALF, 9, 9], [9, THIRD, 9], [9, 9, Fraction(1, 6)]], 1)
        self.check([[HALF, 0], [0, -HALF]], 0)
        self.check([[Fraction(1, i + j + 1) for j in range(6)] for i in range(6)], Fraction(6508, 3465))

    def test_nothing_in_it(self):
        self.assertEqual(last(trace(0)), [0, 0, 1])

    def test_not_square(self):
        for h, w in NOT_SQUARE:
            self.assertEqual(last(filled(0, h, w), trace(0)), [-8])

    def test_weight(self):
        self.assertEqual(last(*diagonal(0, 1997, 1997), trace(0)), [0, 2 ** 1998, 1])
        told = run(*diagonal(0, 1998, 1998), get(0), trace(0), get(0))
        self.assertEqual(told[-2], [-4])
        self.assertEqual(told[-1], told[-3])

    def test_sizes_before_weight(self):
        self.assertEqual(last(rows_call(0, [[1], [2]]), *doubled(0, 1990), trace(0)), [-8])


class Same(unittest.TestCase):
    def test_entries(self):
        start = [rows_call(0, [[HALF, 2], [3, 4]]), set_call(1, 2, 2, 5, 10, 4, 2, 3, 1, 8, 2),
                 rows_call(2, [[HALF, 2], [3, 5]])]
        told = run(*start, same(0, 1), same(1, 0), same(0, 2), same(2, 1), same(0, 0), get(0), get(1), get(2))
        self.assertEqual(told[3:8], [[1], [1], [0], [0], [1]])
        self.assertEqual(told[8:], [table_answer([[HALF, 2], [3, 4]])] * 2 + [table_answer([[HALF, 2], [3, 5]])])

    def test_sizes(self):
        start = [set_call(0, 0, 0), set_call(1, 0, 3), set_call(2, 3, 0), set_call(3, 0, 3), set_call(4, 1, 1, 0, 1)]
        told = run(*start, same(0, 5), same(0, 1), same(0, 2), same(1, 2), same(1, 3), same(0, 4))
        self.assertEqual(told[5:], [[1], [0], [0], [0], [1], [0]])
        told = run(rows_call(0, [[1, 2]]), turn(1, 0), rows_call(2, [[1, 2, 3]]), same(0, 1), same(0, 2), same(2, 0))
        self.assertEqual(told[3:], [[0], [0], [0]])

    def test_worked_out(self):
        rows = [[0, HALF, 3], [-1, 2, THIRD], [4, 0, -5]]
        told = run(rows_call(0, rows), inverse(1, 0), inverse(2, 1), same(0, 2), mul(3, 0, 1), unit(4, 3), same(3, 4),
                   sub(3, 3, 4), scale(4, 4, 0, 7), same(3, 4), scale(4, 0, -6, 4), scale(4, 4, -2, 3), same(4, 0))
        self.assertEqual([told[3], told[6], told[9], told[12]], [[1]] * 4)

    def test_a_sign_differs(self):
        self.assertEqual(last(rows_call(0, [[HALF]]), rows_call(1, [[-HALF]]), same(0, 1)), [0])


class OutOfRange(unittest.TestCase):
    def test_each_register(self):
        start = [beside(0, 0, 0)] + [rows_call(k, [[k + 1]]) for k in range(6)]
        bad = []
        for number in (-1, 6, GREATEST, -GREATEST):
            bad += [det(number), leading(number), char(number), trace(number), same(number, 0), same(0, number)]
        told = run(*start, *bad, *all_six())
        self.assertEqual(told[7:-6], [[-1]] * len(bad))
        self.assertEqual(told[-6:], [[1, 1, k + 1, 1] for k in range(6)])


if __name__ == "__main__":
    unittest.main()
