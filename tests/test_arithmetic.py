"""Point 2: add, sub, mul, scale, turn, and the weight of what is put."""

import unittest
from fractions import Fraction

from tests.helper import GREATEST, add, all_six, doubled, get, halved, last, mul, power, rows_call, run, scale
from tests.helper import set_call, sub, table_answer, turn

HALF = Fraction(1, 2)
THIRD = Fraction(1, 3)


class AddAndSub(unittest.TestCase):
    def test_sum_and_difference(self):
        told = run(rows_call(0, [[HALF, 2], [0, -1]]), rows_call(1, [[THIRD, -2], [5, HALF]]),
                   add(2, 0, 1), get(2), sub(3, 0, 1), get(3), get(0), get(1))
        self.assertEqual(told[2:], [
            [0], table_answer([[Fraction(5, 6), 0], [5, -HALF]]),
            [0], table_answer([[Fraction(1, 6), 4], [-5, Fraction(-3, 2)]]),
            table_answer([[HALF, 2], [0, -1]]), table_answer([[THIRD, -2], [5, HALF]])])

    def test_same_register(self):
        start = rows_call(4, [[HALF, 3]])
        self.assertEqual(last(start, add(4, 4, 4), get(4)), table_answer([[1, 6]]))
        self.assertEqual(last(start, sub(4, 4, 4), get(4)), table_answer([[0, 0]]))

    def test_put_over_one_of_them(self):
        start = [rows_call(0, [[1]]), rows_call(1, [[5]])]
        self.assertEqual(run(*start, sub(1, 0, 1), get(0), get(1))[3:], [[1, 1, 1, 1], [1, 1, -4, 1]])
        self.assertEqual(run(*start, sub(0, 0, 1), get(0), get(1))[3:], [[1, 1, -4, 1], [1, 1, 5, 1]])

    def test_nothing_in_them(self):
        self.assertEqual(run(add(0, 1, 2), sub(0, 1, 2), get(0)), [[0], [0], [0, 0]])
        self.assertEqual(last(set_call(0, 0, 3), add(1, 0, 0), get(1)), [0, 3])
        self.assertEqual(last(set_call(0, 3, 0), sub(1, 0, 0), get(1)), [3, 0])

    def test_sizes(self):
        for first, second in (((1, 2), (2, 1)), ((0, 3), (3, 0)), ((0, 3), (0, 2)), ((2, 2), (2, 3)), ((2, 2), (3, 2))):
            calls = [set_call(0, *first, *[1, 1] * (first[0] * first[1])),
                     set_call(1, *second, *[1, 1] * (second[0] * second[1]))]
            self.assertEqual(run(*calls, add(2, 0, 1), sub(2, 0, 1), get(2))[2:], [[-8], [-8], [0, 0]])


class Mul(unittest.TestCase):
    def test_product(self):
        told = run(rows_call(0, [[1, 2, HALF], [0, -1, 3]]), rows_call(1, [[1, 0], [THIRD, 4], [2, -2]]),
                   mul(2, 0, 1), get(2), mul(3, 1, 0), get(3))
        self.assertEqual(told[2:], [
            [0], table_answer([[Fraction(8, 3), 7], [Fraction(17, 3), -10]]),
            [0], table_answer([[1, 2, HALF], [THIRD, Fraction(-10, 3), Fraction(73, 6)], [2, 6, -5]])])

    def test_same_register(self):
        self.assertEqual(last(rows_call(0, [[1, 1], [1, 0]]), mul(0, 0, 0), get(0)), table_answer([[2, 1], [1, 1]]))

    def test_no_terms_give_zeros(self):
        told = run(set_call(0, 2, 0), set_call(1, 0, 3), mul(2, 0, 1), get(2), mul(3, 1, 0), mul(3, 1, 1))
        self.assertEqual(told[2:], [[0], table_answer([[0, 0, 0], [0, 0, 0]]), [-8], [-8]])

    def test_no_rows(self):
        calls = [set_call(0, 0, 2), rows_call(1, [[1, 2, 3], [4, 5, 6]])]
        self.assertEqual(last(*calls, mul(2, 0, 1), get(2)), [0, 3])
        self.assertEqual(last(set_call(0, 3, 0), mul(2, 0, 3), get(2)), [3, 0])
        self.assertEqual(last(mul(2, 3, 4), get(2)), [0, 0])

    def test_sizes(self):
        self.assertEqual(run(rows_call(0, [[1, 2]]), mul(1, 0, 0), get(1))[1:], [[-8], [0, 0]])
        self.assertEqual(run(rows_call(0, [[1, 2]]), rows_call(1, [[1, 2], [3, 4]]), mul(1, 1, 0), get(1))[2:],
                         [[-8], table_answer([[1, 2], [3, 4]])])


class Scale(unittest.TestCase):
    def test_scaled(self):
        told = run(rows_call(0, [[1, -HALF], [0, 6]]), scale(1, 0, -4, 6), get(1), get(0))
        self.assertEqual(told[1:], [[0], table_answer([[Fraction(-2, 3), THIRD], [0, -4]]),
                                    table_answer([[1, -HALF], [0, 6]])])

    def test_same_register_and_zero(self):
        self.assertEqual(last(rows_call(0, [[1, 2]]), scale(0, 0, 5, 1), get(0)), table_answer([[5, 10]]))
        self.assertEqual(last(rows_call(0, [[1, 2]]), scale(0, 0, 0, GREATEST), get(0)), table_answer([[0, 0]]))

    def test_empty(self):
        self.assertEqual(last(set_call(0, 0, 4), scale(1, 0, 7, 3), get(1)), [0, 4])

    def test_denominator_below_one(self):
        for below in (0, -1, -GREATEST):
            self.assertEqual(run(rows_call(0, [[1]]), scale(1, 0, 1, below), get(1))[1:], [[-1], [0, 0]])

    def test_greatest_numbers(self):
        told = run(rows_call(0, [[GREATEST]]), scale(1, 0, -GREATEST, 1), get(1), scale(1, 1, 1, GREATEST), get(1))
        self.assertEqual(told[2], [1, 1, -10 ** 36, 1])
        self.assertEqual(told[4], [1, 1, -GREATEST, 1])


class Turn(unittest.TestCase):
    def test_turned(self):
        told = run(rows_call(0, [[1, 2, 3], [4, 5, HALF]]), turn(1, 0), get(1), get(0))
        self.assertEqual(told[1:], [[0], table_answer([[1, 4], [2, 5], [3, HALF]]), table_answer([[1, 2, 3], [4, 5, HALF]])])

    def test_same_register(self):
        self.assertEqual(last(rows_call(0, [[1, 2, 3]]), turn(0, 0), get(0)), table_answer([[1], [2], [3]]))

    def test_empty(self):
        self.assertEqual(last(set_call(0, 0, 5), turn(0, 0), get(0)), [5, 0])
        self.assertEqual(last(set_call(0, 5, 0), turn(0, 0), get(0)), [0, 5])


class OutOfRange(unittest.TestCase):
    def test_each_register(self):
        start = [rows_call(k, [[k + 1]]) for k in range(6)]
        bad = []
        for number in (-1, 6, GREATEST, -GREATEST):
            for make in (add, sub, mul):
                bad += [make(number, 0, 0), make(0, number, 0), make(0, 0, number)]
            bad += [scale(number, 0, 1, 1), scale(0, number, 1, 1), turn(number, 0), turn(0, number)]
        told = run(*start, *bad, *all_six())
        self.assertEqual(told[6:-6], [[-1]] * len(bad))
        self.assertEqual(told[-6:], [[1, 1, k + 1, 1] for k in range(6)])

    def test_range_before_sizes(self):
        start = [rows_call(0, [[1, 2]]), rows_call(1, [[1, 2, 3]])]
        for make in (add, sub, mul):
            self.assertEqual(last(*start, make(6, 0, 1)), [-1])
            self.assertEqual(last(*start, make(0, 0, -1)), [-1])


class Weight(unittest.TestCase):
    """2 ** 1998 weighs 2000: 1999 bits and the denominator's one."""

    def setUp(self):
        self.heavy = [rows_call(0, [[1]]), *doubled(0, 1998)]

    def test_two_thousand_is_kept(self):
        told = run(*self.heavy, get(0))
        self.assertEqual(told[:-1], [[0]] * (len(told) - 1))
        self.assertEqual(told[-1], [1, 1, 2 ** 1998, 1])

    def test_one_above_is_refused(self):
        told = run(*self.heavy, scale(0, 0, 2, 1), scale(1, 0, 1, 3), add(0, 0, 0), mul(2, 0, 0), *all_six())
        self.assertEqual(told[-10:-6], [[-4]] * 4)
        self.assertEqual(told[-6:], [[1, 1, 2 ** 1998, 1]] + [[0, 0]] * 5)

    def test_a_sign_weighs_nothing(self):
        self.assertEqual(last(*self.heavy, scale(0, 0, -1, 1), get(0)), [1, 1, -2 ** 1998, 1])
        self.assertEqual(last(*self.heavy, scale(0, 0, -2, 1)), [-4])

    def test_the_denominator_weighs_too(self):
        small = [rows_call(0, [[1]]), *halved(0, 1998)]
        self.assertEqual(run(*small, get(0), scale(0, 0, 1, 2), get(0))[-3:],
                         [[1, 1, 1, 2 ** 1998], [-4], [1, 1, 1, 2 ** 1998]])
        self.assertEqual(last(*small, scale(0, 0, 3, 1)), [-4])
        both = [rows_call(0, [[3]]), *halved(0, 1997)]
        self.assertEqual(run(*both, get(0), scale(0, 0, 1, 2))[-2:], [[1, 1, 3, 2 ** 1997], [-4]])

    def test_weight_is_that_of_lowest_terms(self):
        told = run(*self.heavy, scale(0, 0, 6, 6), scale(0, 0, 2 ** 59, 2 ** 59), get(0), scale(0, 0, 3, 6), get(0))
        self.assertEqual(told[-5:], [[0], [0], [1, 1, 2 ** 1998, 1], [0], [1, 1, 2 ** 1997, 1]])

    def test_one_entry_is_enough(self):
        start = [rows_call(0, [[1, 0], [0, 1]]), *doubled(0, 1998), rows_call(1, [[1, 1], [1, 3]])]
        told = run(*start, mul(1, 0, 1), get(1))
        self.assertEqual(told[-2:], [[-4], table_answer([[1, 1], [1, 3]])])

    def test_heavy_terms_may_cancel(self):
        told = run(*self.heavy, scale(1, 0, -1, 1), add(2, 0, 1), get(2), sub(3, 0, 0), get(3))
        self.assertEqual(told[-4:], [[0], [1, 1, 0, 1], [0], [1, 1, 0, 1]])
        row = [rows_call(0, [[1, -1]]), *doubled(0, 1998), turn(1, 0), rows_call(2, [[1, 0], [0, -1]]), mul(1, 2, 1)]
        self.assertEqual(run(*row, mul(3, 0, 1), get(3))[-2:], [[0], [1, 1, 0, 1]])
        inverse = [rows_call(1, [[5]]), *halved(1, 1990)]
        self.assertEqual(last(*self.heavy, *inverse, mul(2, 0, 1), get(2)), [1, 1, 5 * 2 ** 8, 1])

    def test_sizes_before_weight(self):
        start = [*self.heavy, rows_call(1, [[1, 1]])]
        self.assertEqual(run(*start, add(0, 0, 1), sub(0, 0, 1), mul(0, 1, 0))[-3:], [[-8]] * 3)

    def test_range_before_weight(self):
        self.assertEqual(run(*self.heavy, scale(6, 0, 2, 1), add(6, 0, 0), power(0, 0, 13))[-3:], [[-1]] * 3)


if __name__ == "__main__":
    unittest.main()
