"""The interface: whole lists of calls, what is handed in, and nothing kept."""

import unittest

from exacttables.desk import answers
from tests.helper import flat, run, unit, get, all_six


class Desk(unittest.TestCase):
    def test_one_call(self):
        self.assertEqual(answers([1, 0]), [2, 0, 0])
        self.assertEqual(answers([1, 6]), [1, -1])
        self.assertEqual(answers([0, 0, 1, 1, 2, 4, 6]), [1, 0])

    def test_a_whole_list(self):
        calls = [
            0, 0, 2, 2, 8, 1, 2, 1, 1, 0, 5, 2, 4,
            0, 1, 2, 1, 4, 3, 1, 1, 1,
            4, 2, 0, 1, 1, 2,
            8, 3, 0, 1, 12, 3, 3, 1, 3,
            10, 4, 3, 0, 2, 2, 1, 1, 4,
            9, 5, 0, 1, 1, 5,
            7, 5, 2, 2, 5, 5, 0, 1, 5, 3, 5, 5, 0, 1, 5,
            5, 5, 5, -3, 9, 6, 5, 5, 1, 5,
            11, 5, 5, 2, 1, 5,
            0, 5, 1, 1, 2, 1, 0, 1, 5]
        expected = [
            1, 0,
            1, 0,
            1, 0, 6, 2, 1, 5, 2, 1, 2,
            1, 0, 3, 2, 0, 1, 14, 2, 3, 1, 1, 0, 1, 2, 1, 0, 1, 1, 1, 2, 1,
            1, 0, 6, 2, 1, 2, 1, 2, 1,
            1, -8, 2, 0, 0,
            1, 0, 1, 0, 10, 2, 2, 3, 2, 1, 1, 0, 1, 3, 2, 1, 0, 10, 2, 2, 1, 1, 0, 1, 0, 1, 1, 1,
            1, 0, 1, 0, 10, 2, 2, -1, 3, 0, 1, 0, 1, -1, 3,
            1, 0, 10, 2, 2, 1, 9, 0, 1, 0, 1, 1, 9,
            1, -2, 10, 2, 2, 1, 9, 0, 1, 0, 1, 1, 9]
        handed = list(calls)
        self.assertEqual(answers(handed), expected)
        self.assertEqual(handed, calls)
        self.assertEqual(answers(handed), expected)

    def test_nothing_is_kept(self):
        self.assertEqual(run(unit(0, 2), get(0))[1], [2, 2, 1, 1, 0, 1, 0, 1, 1, 1])
        self.assertEqual(run(*all_six()), [[0, 0]] * 6)

    def test_the_answer_is_a_new_list(self):
        calls = flat([unit(0, 1), get(0)])
        first = answers(calls)
        first.append(5)
        self.assertEqual(answers(calls), [1, 0, 4, 1, 1, 1, 1])

    def test_a_refused_list_is_passed_over(self):
        self.assertEqual(answers([0, 9, 1, 1, 4, 1, 6, 1, 6, 1, 0]), [1, -1, 2, 0, 0])
        self.assertEqual(answers([0, 0, 0, 0, 3, 1, 1, 0, 1, 0]), [1, -2, 2, 0, 0])

    def test_four_hundred_calls(self):
        told = run(*[unit(k % 6, k % 7) for k in range(399)], get(398 % 6))
        self.assertEqual(told[:399], [[0]] * 399)
        self.assertEqual(told[399][:2], [398 % 7, 398 % 7])


if __name__ == "__main__":
    unittest.main()
