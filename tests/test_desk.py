"""The interface: whole lists of calls, what is handed in, and nothing kept."""

import unittest

from exacttables.desk import answers
from tests.helper import flat, run, unit, get, all_six


class Desk(unittest.TestCase):
    def test_one_call(self):
        self.assertEqual(answers([1, 0]), [2, 0, 0])
        self.assertEqual(answers([1, 6]), [1, -1])
        self.assertEqual(answers([0, 0, 1, 1, 2, 4, 6]), [1, 0])

    def test_a_whole_list(self):
        calls = [
            0, 0, 2, 2, 8, 1, 2, 1, 1, 0, 5, 2, 4,
            0, 1, 2, 1, 4, 3, 1, 1, 1,
            4, 2, 0, 1, 1, 2,
            8, 3, 0, 1, 12, 3, 3, 1, 3,
            10, 4, 3, 0, 2, 2, 1, 1, 4,
            9, 5, 0, 1, 1, 5,
            7, 5, 2, 2, 5, 5, 0, 1, 5, 3, 5, 5, 0, 1, 5,
            5, 5, 5, -3, 9, 6, 5, 5, 1, 5,
            11, 5, 5, 2, 1, 5,
            0, 5, 1, 1, 2, 1, 0, 1, 5]
        expected = [
            1, 0,
            1, 0,
            1, 0, 6, 2, 1, 5, 2, 1, 2,
            1, 0, 3, 2, 0, 1, 14, 2, 3, 1, 1, 0, 1, 2, 1, 0, 1, 1, 1, 2, 1,
            1, 0, 6, 2, 1, 2, 1, 2, 1,
            1, -8, 2, 0, 0,
            1, 0, 1, 0, 10, 2, 2, 3, 2, 1, 1, 0, 1, 3, 2, 1, 0, 10, 2, 2, 1, 1, 0, 1, 0, 1, 1, 1,
            1, 0, 1, 0, 10, 2, 2, -1, 3, 0, 1, 0, 1, -1, 3,
            1, 0, 10, 2, 2, 1, 9, 0, 1, 0, 1, 1, 9,
            1, -2, 10, 2, 2, 1, 9, 0, 1, 0, 1, 1, 9]
        self.check_list(calls, expected)

    def check_list(self, calls, expected):
        """The list is answered so, is left as it was, and is answered so once more."""
        handed = list(calls)
        self.assertEqual(answers(handed), expected)
        self.assertEqual(handed, calls)
        self.assertEqual(answers(handed), expected)

    def test_old_and_new_calls_mixed(self):
        self.check_list([
            0, 0, 2, 2, 8, 1, 1, 2, 1, 3, 1, 4, 1,                      # set 0: 1 2 / 3 4
            13, 0, 19, 0, 18, 0, 17, 0,                                 # det, trace, char, leading
            14, 1, 0, 1, 1, 4, 2, 0, 1, 7, 3, 2, 20, 2, 3, 20, 2, 0,    # inverse, get, mul, unit, same, same
            0, 4, 2, 1, 4, 5, 1, 6, 1, 15, 5, 0, 4, 1, 5,               # set 4: 5 / 6, solve, get
            9, 3, 0, 0, 16, 5, 3, 1, 5, 13, 3, 14, 5, 3, 15, 5, 3, 4,   # below, kernel, get, det, inverse, solve
            0, 2, 2, 2, 8, 1, 1, 2, 1, 2, 1, 4, 1,                      # set 2: 1 2 / 2 4
            14, 2, 2, 15, 1, 2, 4, 1, 1, 16, 2, 2, 1, 2, 17, 1, 12, 5, 4],
            [
            1, 0,
            3, 0, -2, 1, 3, 0, 5, 1, 7, 3, 1, 1, -5, 1, -2, 1, 4, 0, 2, 1, -2,
            1, 0, 10, 2, 2, -2, 1, 1, 1, 3, 2, -1, 2, 1, 0, 1, 0, 1, 1, 1, 0,
            1, 0, 1, 0, 6, 2, 1, -4, 1, 9, 2,
            1, 0, 1, 0, 2, 2, 0, 1, -8, 1, -8, 1, -8,
            1, 0,
            1, -9, 1, 1, 10, 2, 2, -2, 1, 1, 1, 3, 2, -1, 2, 1, 1, 6, 2, 1, -2, 1, 1, 1, 1, -9, 2, 1, 0])

    def test_equations_among_tables(self):
        self.check_list([
            22, 0, 0, 0, 23, 0, 1, 0, 0, 24, 0, 0, 0, 0,                # residual, implicit, pull without code
            21, 1, 1, 10, 0, 0, 0, 1, 4, 0, 0, 3, 2, 1, 1, 3,           # code: x * x - t
            22, 0, 2, 3, 1, 2, 8, 1,                                    # residual at 3, 8
            23, 2, 0, 2, 3, 1, 2, 9, 1, 1, 2,                           # implicit at 3, 9, get
            24, 0, 2, 3, 1, 2, 9, 1, 2, 12, 1,                          # pull with the weight 12
            21, 1, 1, 2, 0, 2, 1, 0,                                    # code that uses an input that isn't there
            24, 1, 2, 3, 1, 2, 6, 1, 2, 5, 1,                           # pull of kind 1: 2 * x - 1 is 5
            5, 2, 2, 6, 1, 13, 2, 20, 2, 0,                             # scale, det, same
            23, 2, 0, 2, 0, 1, 2, 0, 1, 23, 2, 0, 2, 3, 1, 2, 8, 1,     # implicit: no inverse; doesn't hold
            23, 2, 0, 2, 3, 1, 2, 8, 0, 23, 6, 0, 0, 0, 1, 2,           # a denominator of 0, register 6, get
            21, 2, 0, 6, 0, 1, 0, 0, 6, 1, 2, 0, 2,                     # code: y, -x
            22, 1, 4, 1, 2, 1, 3, 0, 23, 2, 0, 4, 0, 1, 0, 7, 0, 1, 2,  # residual of kind 1, implicit, get
            21, 1, 0, 5, 1, 1, 0, 0, 0, 1, 0],                          # code with a denominator of 0
            [
            1, 0, 1, 0, 1, 0,
            1, 4,
            3, 1, 1, 1,
            1, 0, 4, 1, 1, 1, 6,
            3, 1, 2, 1,
            1, -3,
            3, 1, 1, 1,
            1, 0, 3, 0, 1, 1, 1, 0,
            1, -9, 1, -10,
            1, -2, 1, -1, 4, 1, 1, 1, 1,
            1, 3,
            5, 2, -1, 6, -5, 6, 1, 0, 2, 2, 0,
            1, -2])

    def test_the_places_of_all_calls(self):
        told = answers(flat([[0, 0, 0, 0, 0], [1, 0], [2, 0, 1, 2], [3, 0, 1, 2], [4, 0, 1, 2], [5, 0, 1, 1, 1], [6, 0, 1],
                             [7, 0, 0], [8, 0, 1, 2], [9, 0, 1, 2], [10, 0, 1, 0, 0, 0, 0], [11, 0, 1, 0], [12, 0, 1],
                             [13, 0], [14, 0, 1], [15, 0, 1, 2], [16, 0, 1], [17, 0], [18, 0], [19, 0], [20, 0, 1],
                             [21, 1, 0, 2, 0, 0, 1, 0], [22, 0, 2, 1, 1, 0], [23, 0, 1, 2, 0, 1, 0], [24, 0, 2, 0, 1, 0, 2, 1, 1]]))
        self.assertEqual(told, [1, 0, 2, 0, 0, 1, 0, 1, 0, 1, 0, 1, 0, 1, 0, 1, 0, 1, 0, 1, 0, 1, 0, 1, 0, 1, 0,
                                3, 0, 1, 1, 1, 0, 1, 0, 1, 0, 2, 0, 0, 3, 1, 1, 1, 3, 0, 0, 1, 1, 1,
                                1, 1, 3, 1, 1, 1, 1, -9, 1, 0])

    def test_nothing_is_kept(self):
        self.assertEqual(run(unit(0, 2), get(0))[1], [2, 2, 1, 1, 0, 1, 0, 1, 1, 1])
        self.assertEqual(run(*all_six()), [[0, 0]] * 6)

    def test_the_answer_is_a_new_list(self):
        calls = flat([unit(0, 1), get(0)])
        first = answers(calls)
        first.append(5)
        self.assertEqual(answers(calls), [1, 0, 4, 1, 1, 1, 1])

    def test_a_refused_list_is_passed_over(self):
        self.assertEqual(answers([0, 9, 1, 1, 4, 1, 6, 1, 6, 1, 0]), [1, -1, 2, 0, 0])
        self.assertEqual(answers([0, 0, 0, 0, 3, 1, 1, 0, 1, 0]), [1, -2, 2, 0, 0])

    def test_four_hundred_calls(self):
        told = run(*[unit(k % 6, k % 7) for k in range(399)], get(398 % 6))
        self.assertEqual(told[:399], [[0]] * 399)
        self.assertEqual(told[399][:2], [398 % 7, 398 % 7])


if __name__ == "__main__":
    unittest.main()
