"""Point 1: set and get, and the registers at the beginning."""

import unittest

from tests.helper import GREATEST, all_six, get, last, run, set_call


class SetAndGet(unittest.TestCase):
    def test_registers_are_empty_at_the_beginning(self):
        self.assertEqual(run(*all_six()), [[0, 0]] * 6)

    def test_row_after_row(self):
        told = run(set_call(3, 2, 3, 1, 1, 2, 1, 3, 1, 4, 1, 5, 1, 6, 7), get(3))
        self.assertEqual(told, [[0], [2, 3, 1, 1, 2, 1, 3, 1, 4, 1, 5, 1, 6, 7]])

    def test_other_registers_are_as_they_were(self):
        told = run(set_call(0, 1, 1, 5, 1), set_call(5, 1, 1, 7, 1), *all_six())
        self.assertEqual(told[2:], [[1, 1, 5, 1], [0, 0], [0, 0], [0, 0], [0, 0], [1, 1, 7, 1]])

    def test_set_again(self):
        self.assertEqual(last(set_call(0, 1, 2, 5, 1, 6, 1), set_call(0, 1, 1, 8, 1), get(0)), [1, 1, 8, 1])

    def test_lowest_terms(self):
        told = last(set_call(0, 1, 6, 6, 4, -6, 4, 0, 9, 10, 5, -3, 3, 7, 1), get(0))
        self.assertEqual(told, [1, 6, 3, 2, -3, 2, 0, 1, 2, 1, -1, 1, 7, 1])

    def test_greatest_numbers(self):
        told = last(set_call(0, 2, 2, GREATEST, 1, -GREATEST, GREATEST, 1, GREATEST, GREATEST - 1, GREATEST), get(0))
        self.assertEqual(told, [2, 2, GREATEST, 1, -1, 1, 1, GREATEST, GREATEST - 1, GREATEST])

    def test_no_rows_or_no_columns(self):
        self.assertEqual(run(set_call(0, 0, 0), get(0)), [[0], [0, 0]])
        self.assertEqual(run(set_call(0, 0, 6), get(0)), [[0], [0, 6]])
        self.assertEqual(run(set_call(0, 6, 0), get(0)), [[0], [6, 0]])

    def test_six_rows_and_columns(self):
        numbers = [number for k in range(36) for number in (k, 1)]
        self.assertEqual(run(set_call(0, 6, 6, *numbers), get(0)), [[0], [6, 6] + numbers])

    def test_out_of_range(self):
        for r in (-1, 6, GREATEST, -GREATEST):
            self.assertEqual(last(set_call(r, 1, 1, 1, 1)), [-1])
            self.assertEqual(last(get(r)), [-1])
        for size in (-1, 7, GREATEST, -GREATEST):
            self.assertEqual(last(set_call(0, size, 1, 1, 1)), [-1])
            self.assertEqual(last(set_call(0, 1, size, 1, 1)), [-1])
            self.assertEqual(last(set_call(0, size, 0)), [-1])
            self.assertEqual(last(set_call(0, 0, size)), [-1])

    def test_seven_columns_with_their_fractions(self):
        self.assertEqual(last(set_call(0, 1, 7, *[1, 1] * 7)), [-1])

    def test_list_of_another_length(self):
        for numbers in ([], [1], [1, 1], [1, 1, 1], [1, 1, 1, 1, 1], [1, 1] * 3, [1] * 200):
            self.assertEqual(last(set_call(0, 1, 2, *numbers)), [-2])
        self.assertEqual(last(set_call(0, 0, 3, 1, 1)), [-2])

    def test_denominator_below_one(self):
        for below in (0, -1, -GREATEST):
            self.assertEqual(last(set_call(0, 1, 2, 1, 1, 1, below)), [-2])
            self.assertEqual(last(set_call(0, 1, 2, 0, below, 1, 1)), [-2])

    def test_refusals_leave_all_as_it_was(self):
        before = [set_call(k, 1, 1, k + 1, 1) for k in range(6)]
        bad = [set_call(0, 1, 1, 1, 0), set_call(1, 7, 1, 1, 1), set_call(2, 2, 2, 1, 1), set_call(6, 1, 1, 1, 1), get(6)]
        told = run(*before, *bad, *all_six())
        self.assertEqual(told[6:11], [[-2], [-1], [-2], [-1], [-1]])
        self.assertEqual(told[11:], [[1, 1, k + 1, 1] for k in range(6)])

    def test_range_before_form(self):
        self.assertEqual(last(set_call(6, 1, 1, 1, 0)), [-1])
        self.assertEqual(last(set_call(0, 7, 1, 1)), [-1])
        self.assertEqual(last(set_call(0, 1, -1, 1, -1)), [-1])


if __name__ == "__main__":
    unittest.main()
