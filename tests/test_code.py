"""Point 10: code; what a list must be, how lines are worked out, and when the run has a fault."""

import unittest
from fractions import Fraction

from tests.helper import GREATEST, code, flat, implicit, last, pairs, pull, raw_code, residual, rows_call, run, all_six

HALF = Fraction(1, 2)


def value(lines, *inputs):
    """The value of the last of these lines, over one unknown and as many parameters as are told behind it."""
    told = run(code(1, len(inputs) - 1, lines, [len(lines) - 1]), residual(0, inputs[:1], inputs[1:]))
    assert told[0] == [len(lines)]
    return told[1]


class Lines(unittest.TestCase):
    def check(self, lines, inputs, expected):
        self.assertEqual(value(lines, *inputs), [1] + pairs([expected]))

    def test_each_kind(self):
        start = [[0, 0], [0, 1]]
        self.check([[0, 0]], [7], 7)
        self.check([[0, 1]], [7, HALF], HALF)
        self.check([[1, 6, 4]], [7], Fraction(3, 2))
        self.check([[1, -GREATEST, 1]], [7], -GREATEST)
        self.check(start + [[2, 0, 1]], [7, HALF], Fraction(15, 2))
        self.check(start + [[3, 0, 1]], [7, HALF], Fraction(13, 2))
        self.check(start + [[3, 1, 0]], [7, HALF], Fraction(-13, 2))
        self.check(start + [[4, 0, 1]], [7, HALF], Fraction(7, 2))
        self.check(start + [[5, 0, 1]], [7, HALF], 14)
        self.check(start + [[5, 1, 0]], [7, -HALF], Fraction(-1, 14))
        self.check(start + [[5, 0, 1]], [7, -HALF], -14)
        self.check(start + [[6, 1]], [7, HALF], -HALF)

    def test_all_inputs(self):
        lines = [[0, k] for k in range(8)]
        told = run(code(4, 4, lines, [0, 3, 4, 7]), residual(0, [1, 2, 3, 4], [5, 6, 7, HALF]))
        self.assertEqual(told, [[8], [4, 1, 1, 4, 1, 5, 1, 1, 2]])

    def test_a_line_may_use_the_same_twice(self):
        self.check([[0, 0], [4, 0, 0], [2, 1, 1], [3, 2, 2], [5, 2, 2]], [3], 1)

    def test_the_one_before_is_earlier(self):
        self.check([[1, 3, 1], [6, 0], [6, 1], [6, 2]], [0], -3)

    def test_forty_lines(self):
        self.check([[0, 0]] + [[6, k] for k in range(39)], [5], -5)
        self.check([[0, 0]] + [[2, k, 0] for k in range(39)], [5], 200)

    def test_inputs_needn_t_be_in_lowest_terms(self):
        told = run(code(1, 1, [[0, 0], [0, 1], [4, 0, 1]], [2]), [22, 0, 2, 6, 4, 2, 10, 15])
        self.assertEqual(told[1], [1, 1, 1])


class Form(unittest.TestCase):
    """What is refused, over a code that goes on to be there."""

    def check(self, refusal, *calls):
        start = [code(1, 1, [[0, 0], [0, 1], [3, 0, 1]], [2]), rows_call(3, [[4, 5]])]
        told = run(*start, *calls, residual(0, [7], [HALF]), *all_six())
        self.assertEqual(told[2:2 + len(calls)], [[refusal]] * len(calls))
        self.assertEqual(told[2 + len(calls):], [[1, 13, 2], [0, 0], [0, 0], [0, 0], [1, 2, 4, 1, 5, 1], [0, 0], [0, 0]])

    def test_ranges(self):
        for number in (0, 5, -1, GREATEST, -GREATEST):
            self.check(-1, code(number, 0, [[0, 0]], [0]))
        for number in (-1, 5, GREATEST, -GREATEST):
            self.check(-1, code(1, number, [[0, 0]], [0]))
        self.check(-1, code(5, 0, [[0, 0]], [0] * 5), code(0, 1, [[0, 0]], []))

    def test_a_kind(self):
        for kind in (-1, 7, 8, GREATEST, -GREATEST):
            self.check(-2, raw_code(1, 0, [kind], [0]), raw_code(1, 0, [0, 0, kind, 0], [0]),
                       raw_code(1, 0, [0, 0, kind, 0, 0], [0]))

    def test_numbers_that_are_missing(self):
        for numbers in ([0], [1], [1, 5], [0, 0, 2], [0, 0, 2, 0], [0, 0, 3, 0], [0, 0, 4], [0, 0, 5, 0], [0, 0, 6]):
            self.check(-2, raw_code(1, 0, numbers, [0]))

    def test_numbers_below_zero(self):
        for number in (-1, -GREATEST):
            for line in ([0, number], [2, 0, number], [2, number, 0], [3, 0, number], [3, number, 0], [4, 0, number],
                         [4, number, 0], [5, 0, number], [5, number, 0], [6, number]):
                self.check(-2, code(1, 0, [[0, 0], line], [0]))

    def test_a_denominator_below_one(self):
        for number in (0, -1, -GREATEST):
            self.check(-2, code(1, 0, [[0, 0], [1, 5, number]], [0]))

    def test_a_numerator_may_be_below_zero(self):
        self.assertEqual(last(code(1, 0, [[1, -5, 1]], [0])), [1])

    def test_too_many_lines(self):
        self.assertEqual(last(code(1, 0, [[0, 0]] * 40, [39])), [40])
        self.check(-7, code(1, 0, [[0, 0]] * 41, [0]), code(1, 0, [[0, 0]] * 200, [0]), code(1, 0, [[1, 1, 1]] * 133, [0]))

    def test_a_line_that_isn_t_earlier(self):
        for kind in (2, 3, 4, 5):
            self.check(-3, code(1, 0, [[0, 0], [kind, 0, 1]], [0]), code(1, 0, [[0, 0], [kind, 1, 0]], [0]),
                       code(1, 0, [[0, 0], [kind, 0, 2], [0, 0]], [0]), code(1, 0, [[kind, 0, 0]], [0]),
                       code(1, 0, [[0, 0], [kind, GREATEST, 0]], [0]))
        self.check(-3, code(1, 0, [[6, 0]], [0]), code(1, 0, [[0, 0], [6, 1]], [0]), code(1, 0, [[6, 1], [0, 0]], [0]),
                   code(1, 0, [[0, 0], [6, GREATEST]], [0]))

    def test_an_input_that_isn_t_there(self):
        self.check(-3, code(1, 0, [[0, 1]], [0]), code(2, 1, [[0, 3]], [0, 0]), code(4, 4, [[0, 8]], [0] * 4),
                   code(1, 0, [[0, 0], [0, GREATEST]], [0]))
        self.assertEqual(last(code(2, 1, [[0, 2]], [0, 0])), [1])
        self.assertEqual(last(code(4, 4, [[0, 7]], [0, 0, 0, 0])), [1])

    def test_inputs_may_be_above_the_line_s_own_number(self):
        self.assertEqual(value([[0, 2]], 4, 5, 6), [1, 6, 1])

    def test_outs(self):
        lines = [[0, 0], [6, 0]]
        self.check(-2, code(1, 0, lines, []), code(1, 0, lines, [0, 1]), code(2, 0, lines, [0]), code(1, 0, lines, [2]),
                   code(1, 0, lines, [-1]), code(1, 0, lines, [GREATEST]), code(2, 0, lines, [1, 2]),
                   code(2, 0, lines, [-GREATEST, 1]), code(4, 4, lines, [0, 0, 0]), code(1, 0, lines, [0] * 100))

    def test_no_lines(self):
        self.check(-2, code(1, 0, [], []), code(1, 0, [], [0]), code(4, 4, [], [0, 0, 0, 0]))

    def test_the_same_out_more_than_once(self):
        told = run(code(3, 0, [[0, 1], [0, 2]], [1, 0, 1]), residual(0, [4, 5, 6], []), residual(1, [4, 5, 6], []))
        self.assertEqual(told, [[2], [3, 6, 1, 5, 1, 6, 1], [3, 2, 1, 0, 1, 0, 1]])


class Order(unittest.TestCase):
    def test_range_before_form(self):
        self.assertEqual(last(raw_code(0, 0, [9], [])), [-1])
        self.assertEqual(last(raw_code(1, 5, [0], [])), [-1])
        self.assertEqual(last(code(0, 0, [[0, 0]] * 41, [])), [-1])
        self.assertEqual(last(code(1, -1, [[0, 9]], [5])), [-1])

    def test_form_before_too_many_lines(self):
        self.assertEqual(last(raw_code(1, 0, [0, 0] * 41 + [9], [0])), [-2])
        self.assertEqual(last(raw_code(1, 0, [0, 0] * 41 + [6], [0])), [-2])
        self.assertEqual(last(raw_code(1, 0, [0, 0] * 41 + [1, 1, 0], [0])), [-2])

    def test_form_before_what_is_used(self):
        self.assertEqual(last(raw_code(1, 0, [0, 5, 6, -1], [0])), [-2])
        self.assertEqual(last(raw_code(1, 0, [6, 0, 7], [0])), [-2])

    def test_too_many_lines_before_what_is_used(self):
        self.assertEqual(last(code(1, 0, [[0, 5]] * 41, [0])), [-7])
        self.assertEqual(last(code(1, 0, [[6, 50]] + [[0, 0]] * 40, [0])), [-7])

    def test_too_many_lines_before_outs(self):
        self.assertEqual(last(code(1, 0, [[0, 0]] * 41, [])), [-7])

    def test_what_is_used_before_outs(self):
        self.assertEqual(last(code(1, 0, [[0, 1]], [])), [-3])
        self.assertEqual(last(code(1, 0, [[6, 0]], [7])), [-3])


class Held(unittest.TestCase):
    def test_the_last_code_is_meant(self):
        told = run(code(1, 0, [[0, 0]], [0]), residual(0, [3], []), code(1, 1, [[0, 1]], [0]), residual(0, [3], [4]),
                   residual(0, [3], []))
        self.assertEqual(told, [[1], [1, 3, 1], [1], [1, 4, 1], [-2]])

    def test_it_isn_t_run_when_it_is_told(self):
        lines = [[1, 0, 1], [5, 0, 0], [0, 0]]
        self.assertEqual(run(code(1, 0, lines, [2]), residual(0, [1], [])), [[3], [-5]])

    def test_nothing_is_kept_from_one_list_to_the_next(self):
        run(code(1, 0, [[0, 0]], [0]))
        self.assertEqual(run(residual(0, [], []), residual(0, [3], [])), [[0], [-2]])


class Faults(unittest.TestCase):
    def powers(self, *exponents):
        """Lines whose last one is 2 to the sum of these exponents."""
        lines = [[1, 2 ** exponents[0], 1]]
        for exponent in exponents[1:]:
            lines += [[1, 2 ** exponent, 1], [4, len(lines) - 1, len(lines)]]
        return lines

    def check_both(self, lines, inputs=(0,)):
        """All three calls that run the code, on a code whose run has a fault."""
        parameters = inputs[1:]
        told = run(code(1, len(parameters), lines, [0]), rows_call(2, [[8]]), residual(0, inputs[:1], parameters),
                   implicit(2, 0, inputs[:1], parameters), pull(0, inputs[:1], parameters, [1]),
                   residual(1, inputs[:1], parameters), implicit(2, 1, inputs[:1], parameters),
                   pull(1, inputs[:1], parameters, [1]), *all_six())
        self.assertEqual(told[2:8], [[-5]] * 6)
        self.assertEqual(told[8:], [[0, 0], [0, 0], [1, 1, 8, 1], [0, 0], [0, 0], [0, 0]])

    def test_weight_of_two_hundred(self):
        self.assertEqual(value(self.powers(59, 59, 59, 21), 0), [1, 2 ** 198, 1])
        self.check_both(self.powers(59, 59, 59, 22))

    def test_the_sign_weighs_nothing(self):
        lines = self.powers(59, 59, 59, 21)
        self.assertEqual(value(lines + [[6, len(lines) - 1]], 0), [1, -2 ** 198, 1])

    def test_the_denominator_weighs_too(self):
        lines = self.powers(59, 59, 59, 21)
        size = len(lines)
        self.assertEqual(value(lines + [[1, 1, 1], [5, size, size - 1]], 0), [1, 1, 2 ** 198])
        self.check_both([[0, 0]] + [[1, 1, 2 ** 59], [4, 1, 1], [4, 2, 1], [1, 1, 2 ** 22], [4, 3, 4]])
        self.check_both([[0, 0]] + [[1, 1, 2 ** 59], [4, 1, 1], [4, 2, 1], [1, 3, 2 ** 21], [4, 3, 4]])
        lines = [[0, 0]] + [[1, 1, 2 ** 59], [4, 1, 1], [4, 2, 1], [1, 3, 2 ** 20], [4, 3, 4]]
        self.assertEqual(value(lines, 0), [1, 3, 2 ** 197])

    def test_weight_is_that_of_lowest_terms(self):
        lines = [[0, 0], [1, 2 ** 59, 3 ** 30], [1, 3 ** 30, 2 ** 59], [4, 1, 2], [4, 3, 1], [4, 4, 2]]
        self.assertEqual(value(lines, 0), [1, 1, 1])

    def test_a_line_that_no_out_needs(self):
        self.check_both([[0, 0], *[[1, 2 ** 59, 1]] * 2, [4, 1, 1], [4, 3, 3], [3, 0, 4]])

    def test_a_heavy_line_on_the_way(self):
        self.check_both([[0, 0], [1, 2 ** 59, 1], [4, 1, 1], [4, 2, 2], [5, 3, 3]])

    def test_a_sum_and_a_difference(self):
        lines = [[0, 0], [1, 2 ** 59, 1], [4, 1, 1], [4, 2, 1], [1, 2 ** 21, 1], [4, 3, 4]]
        self.check_both(lines + [[2, 5, 5]])
        self.check_both(lines + [[6, 5], [3, 6, 5]])
        self.assertEqual(value(lines + [[3, 5, 1]], 0), [1, 2 ** 198 - 2 ** 59, 1])

    def test_a_quotient_by_zero(self):
        self.check_both([[0, 0], [1, 1, 1], [5, 1, 0]])
        self.check_both([[0, 0], [5, 0, 0]])
        self.check_both([[0, 0], [0, 1], [3, 0, 1], [5, 1, 2]], (4, 4))
        self.assertEqual(value([[0, 0], [0, 1], [3, 0, 1], [5, 1, 2]], 4, 5), [1, -5, 1])

    def test_zero_may_be_divided(self):
        self.assertEqual(value([[0, 0], [1, -3, 1], [5, 0, 1]], 0), [1, 0, 1])

    def test_greatest_inputs(self):
        self.assertEqual(value([[0, 0], [0, 1], [5, 0, 1]], Fraction(GREATEST, GREATEST - 1), GREATEST), [1, 1, GREATEST - 1])
        told = run(code(1, 0, [[0, 0]], [0]), residual(0, [Fraction(GREATEST, GREATEST - 1)], []))
        self.assertEqual(told[1], [1, GREATEST, GREATEST - 1])


class Whole(unittest.TestCase):
    def test_the_list_as_it_stands(self):
        self.assertEqual(code(1, 1, [[0, 0], [1, 1, 2], [2, 0, 1]], [2]), [21, 1, 1, 8, 0, 0, 1, 1, 2, 2, 0, 1, 1, 2])
        self.assertEqual(flat([[1], [2, 3]]), [1, 2, 3])


if __name__ == "__main__":
    unittest.main()
