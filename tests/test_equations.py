"""Points 11, 12 and 13: residual, implicit, pull."""

import unittest
from fractions import Fraction

from tests.helper import GREATEST, all_six, code, counted, get, implicit, last, pairs, pull, residual, rows_call, run
from tests.helper import table_answer

HALF = Fraction(1, 2)
THIRD = Fraction(1, 3)

# x * x - t: the root of t.
ROOT = code(1, 1, [[0, 0], [0, 1], [4, 0, 0], [3, 2, 1]], [3])
# (x + t / x) / 2: the root of t as a fixed point.
HERON = code(1, 1, [[0, 0], [0, 1], [5, 1, 0], [2, 0, 2], [1, 1, 2], [4, 3, 4]], [5])
# x + y - s, x * y - p: two numbers by sum and product.
VIETA = code(2, 2, [[0, 0], [0, 1], [0, 2], [0, 3], [2, 0, 1], [3, 4, 2], [4, 0, 1], [3, 6, 3]], [5, 7])
# a * x + b with the parameters a and b, as a fixed point.
LINE = code(1, 2, [[0, 0], [0, 1], [0, 2], [4, 1, 0], [2, 3, 2]], [4])
# x * x - 4, without parameters.
FOUR = code(1, 0, [[0, 0], [4, 0, 0], [1, 4, 1], [3, 1, 2]], [3])


class Residual(unittest.TestCase):
    def test_kind_0(self):
        told = run(ROOT, residual(0, [3], [9]), residual(0, [3], [8]), residual(0, [HALF], [1]))
        self.assertEqual(told, [[4], [1, 0, 1], [1, 1, 1], [1, -3, 4]])

    def test_kind_1(self):
        told = run(HERON, residual(1, [3], [9]), residual(1, [1], [9]), residual(0, [1], [9]), residual(1, [-2], [1]))
        self.assertEqual(told, [[6], [1, 0, 1], [1, 4, 1], [1, 5, 1], [1, 3, 4]])

    def test_several(self):
        told = run(VIETA, residual(0, [2, 3], [5, 6]), residual(0, [HALF, THIRD], [1, 1]), residual(1, [2, 3], [0, 0]))
        self.assertEqual(told[1:], [[2, 0, 1, 0, 1], [2, -1, 6, -5, 6], [2, 3, 1, 3, 1]])

    def test_no_parameters(self):
        told = run(FOUR, residual(0, [3], []), residual(1, [3], []), residual(0, [3], [1]))
        self.assertEqual(told[1:], [[1, 5, 1], [1, 2, 1], [-2]])

    def test_before_any_code(self):
        told = run(residual(0, [], []), residual(1, [], []), residual(0, [1], []), residual(0, [], [1]), residual(2, [], []))
        self.assertEqual(told, [[0], [0], [-2], [-2], [-1]])

    def test_an_out_heavier_than_a_line_may_be(self):
        lines = [[0, 0], [1, 2 ** 59, 1], [4, 1, 1], [4, 2, 1], [1, 2 ** 21, 1], [4, 3, 4]]
        odd = 10 ** 18 - 1
        told = run(code(1, 0, lines, [5]), residual(1, [Fraction(1, odd)], []))
        self.assertEqual(told[1], [1, 2 ** 198 * odd - 1, odd])

    def test_registers_are_as_they_were(self):
        told = run(rows_call(0, [[7]]), ROOT, residual(0, [3], [9]), *all_six())
        self.assertEqual(told[3:], [[1, 1, 7, 1]] + [[0, 0]] * 5)


class Implicit(unittest.TestCase):
    def check(self, start, kind, unknowns, parameters, expected):
        told = run(start, implicit(4, kind, unknowns, parameters), get(4), residual(kind, unknowns, parameters))
        self.assertEqual(told[1:3], [[0], table_answer(expected)])
        self.assertEqual(told[3], [len(unknowns)] + [0, 1] * len(unknowns))

    def test_a_root(self):
        self.check(ROOT, 0, [3], [9], [[Fraction(1, 6)]])
        self.check(ROOT, 0, [-3], [9], [[Fraction(-1, 6)]])
        self.check(ROOT, 0, [THIRD], [Fraction(1, 9)], [[Fraction(3, 2)]])
        self.check(HERON, 1, [3], [9], [[Fraction(1, 6)]])
        self.check(HERON, 1, [-3], [9], [[Fraction(-1, 6)]])

    def test_two_unknowns(self):
        self.check(VIETA, 0, [2, 3], [5, 6], [[-2, 1], [3, -1]])
        self.check(VIETA, 0, [HALF, -1], [-HALF, -HALF], [[Fraction(1, 3), Fraction(-2, 3)],
                                                         [Fraction(2, 3), Fraction(2, 3)]])

    def test_a_fixed_point(self):
        self.check(LINE, 1, [4], [HALF, 2], [[8, 2]])
        self.check(LINE, 1, [2], [-1, 4], [[1, HALF]])

    def test_the_same_code_of_both_kinds(self):
        self.check(LINE, 0, [-4], [HALF, 2], [[8, -2]])
        # y is s, and x is 1 + p / s
        self.check(VIETA, 1, [2, 3], [3, 3], [[-THIRD, THIRD], [1, 0]])

    def test_every_kind_of_line(self):
        # x * (t + u) - (t / u - x) - t with x unknown: x = t * (1 + 1/u) / (t + u + 1)
        lines = [[0, 0], [0, 1], [0, 2], [2, 1, 2], [4, 0, 3], [5, 1, 2], [3, 5, 0], [6, 6], [2, 4, 7], [3, 8, 1]]
        u, t = Fraction(2), Fraction(3)
        x = t * (1 + 1 / u) / (t + u + 1)
        by_t = ((1 + 1 / u) * (t + u + 1) - t * (1 + 1 / u)) / (t + u + 1) ** 2
        by_u = (-t / u ** 2 * (t + u + 1) - t * (1 + 1 / u)) / (t + u + 1) ** 2
        self.check(code(1, 2, lines, [9]), 0, [x], [t, u], [[by_t, by_u]])

    def test_the_derivative_of_a_quotient(self):
        # x - t / (t * t + 1)
        lines = [[0, 0], [0, 1], [4, 1, 1], [1, 1, 1], [2, 2, 3], [5, 1, 4], [3, 0, 5]]
        for t in (Fraction(0), Fraction(2), Fraction(-1, 3)):
            self.check(code(1, 1, lines, [6]), 0, [t / (t * t + 1)], [t], [[(1 - t * t) / (t * t + 1) ** 2]])

    def test_a_constant_alone_moves_nothing(self):
        self.check(code(1, 1, [[1, 5, 3]], [0]), 1, [Fraction(5, 3)], [9], [[0]])
        self.check(code(1, 3, [[0, 2]], [0]), 1, [7], [9, 7, 2], [[0, 1, 0]])

    def test_four_and_four(self):
        # y(i) = p(i) + y(i + 1) / 2 around a ring
        lines = [[0, k] for k in range(8)] + [[1, 1, 2]]
        for i in range(4):
            lines += [[4, (i + 1) % 4, 8], [2, 4 + i, len(lines)]]
        start = code(4, 4, lines, [10, 12, 14, 16])
        moves = [[Fraction(1, 2 ** ((j - i) % 4)) * Fraction(16, 15) for j in range(4)] for i in range(4)]
        parameters = [Fraction(1), Fraction(2), Fraction(3), Fraction(-4)]
        unknowns = [sum(moves[i][j] * parameters[j] for j in range(4)) for i in range(4)]
        self.check(start, 1, unknowns, parameters, moves)

    def test_no_parameters(self):
        told = run(FOUR, rows_call(2, [[9]]), implicit(2, 0, [2], []), get(2), implicit(3, 1, [2], []), implicit(3, 0, [0], []))
        self.assertEqual(told[2:], [[0], [1, 0], [-10], [-10]])
        told = run(code(2, 0, [[0, 1], [0, 0]], [0, 1]), implicit(2, 0, [0, 0], []), get(2))
        self.assertEqual(told[1:], [[0], [2, 0]])

    def test_before_any_code(self):
        told = run(rows_call(0, [[1]]), rows_call(1, [[1]]), implicit(0, 0, [], []), get(0), implicit(1, 1, [], []), get(1),
                   implicit(0, 0, [1], []), implicit(0, 0, [], [1]), implicit(0, 2, [], []), implicit(6, 0, [], []))
        self.assertEqual(told[2:], [[0], [0, 0], [0], [0, 0], [-2], [-2], [-1], [-1]])

    def test_the_same_out_twice(self):
        lines = [[0, 0], [0, 1], [0, 2], [2, 0, 1], [3, 3, 2]]
        told = run(code(2, 1, lines, [4, 4]), implicit(0, 0, [1, 2], [3]))
        self.assertEqual(told[1], [-9])
        self.check(code(2, 1, lines, [4, 4]), 1, [-3, -3], [-3], [[1], [1]])

    def test_no_inverse(self):
        told = run(ROOT, rows_call(0, [[5]]), implicit(0, 0, [0], [0]), get(0))
        self.assertEqual(told[2:], [[-9], [1, 1, 5, 1]])
        self.assertEqual(run(LINE, implicit(0, 1, [5], [1, 0]))[1], [-9])
        self.assertEqual(run(VIETA, implicit(0, 0, [3, 3], [6, 9]))[1], [-9])
        self.assertEqual(run(code(1, 0, [[1, 0, 1]], [0]), implicit(0, 0, [5], []))[1], [-9])
        self.assertEqual(run(code(1, 1, [[0, 1]], [0]), implicit(0, 0, [5], [0]))[1], [-9])
        self.assertEqual(run(code(1, 0, [[0, 0]], [0]), implicit(0, 1, [5], []))[1], [-9])

    def test_they_don_t_hold(self):
        told = run(ROOT, rows_call(0, [[5]]), implicit(0, 0, [3], [8]), implicit(0, 1, [3], [9]), get(0))
        self.assertEqual(told[2:], [[-10], [-10], [1, 1, 5, 1]])
        self.assertEqual(run(VIETA, implicit(0, 0, [2, 3], [5, 7]))[1], [-10])
        self.assertEqual(run(VIETA, implicit(0, 0, [2, 3], [4, 6]))[1], [-10])

    def test_not_in_lowest_terms(self):
        told = run(HERON, [23, 0, 1, 2, 6, 2, 2, 81, 9], get(0))
        self.assertEqual(told[1:], [[0], [1, 1, 1, 6]])


class Pull(unittest.TestCase):
    def check(self, start, kind, unknowns, parameters, weights, expected):
        told = run(start, pull(kind, unknowns, parameters, weights))
        self.assertEqual(told[1], [len(expected)] + pairs(expected))

    def test_one_unknown(self):
        self.check(ROOT, 0, [3], [9], [1], [Fraction(1, 6)])
        self.check(ROOT, 0, [3], [9], [-4], [Fraction(-2, 3)])
        self.check(HERON, 1, [3], [9], [HALF], [Fraction(1, 12)])
        self.check(LINE, 1, [4], [HALF, 2], [3], [24, 6])

    def test_two_unknowns(self):
        self.check(VIETA, 0, [2, 3], [5, 6], [1, 0], [-2, 1])
        self.check(VIETA, 0, [2, 3], [5, 6], [0, 1], [3, -1])
        self.check(VIETA, 0, [2, 3], [5, 6], [HALF, Fraction(-1, 3)], [-2, Fraction(5, 6)])
        self.check(VIETA, 1, [2, 3], [3, 3], [10, 1], [Fraction(-7, 3), Fraction(10, 3)])

    def test_weights_of_zero(self):
        self.check(VIETA, 0, [2, 3], [5, 6], [0, 0], [0, 0])

    def test_no_parameters(self):
        told = run(FOUR, pull(0, [2], [], [7]), pull(0, [3], [], [7]), pull(0, [2], [], []), pull(1, [2], [], [7]))
        self.assertEqual(told[1:], [[0], [-10], [-2], [-10]])
        self.assertEqual(run(code(1, 0, [[1, 0, 1]], [0]), pull(0, [5], [], [1]))[1], [-9])

    def test_before_any_code(self):
        told = run(pull(0, [], [], []), pull(1, [], [], []), pull(0, [], [], [1]), pull(0, [1], [], []), pull(0, [], [1], []),
                   pull(2, [], [], []))
        self.assertEqual(told, [[0], [0], [-2], [-2], [-2], [-1]])

    def test_registers_are_as_they_were(self):
        told = run(rows_call(0, [[7]]), VIETA, pull(0, [2, 3], [5, 6], [1, 1]), *all_six())
        self.assertEqual(told[2:], [[2, 1, 1, 0, 1], [1, 1, 7, 1]] + [[0, 0]] * 5)

    def test_like_the_table_that_implicit_puts(self):
        told = run(VIETA, rows_call(1, [[HALF, 5]]), implicit(0, 0, [2, 3], [5, 6]), [4, 2, 1, 0], get(2),
                   pull(0, [2, 3], [5, 6], [HALF, 5]))
        self.assertEqual(told[4][2:], told[5][1:])

    def test_no_inverse_and_not_held(self):
        told = run(ROOT, pull(0, [0], [0], [1]), pull(0, [3], [8], [1]), pull(1, [3], [9], [1]))
        self.assertEqual(told[1:], [[-9], [-10], [-10]])


class Weight(unittest.TestCase):
    """x - t * 2 ** 59 * .. * 2 ** 59 * 2 ** k at 0, so x moves with t by that power of 2."""

    def start(self, rest):
        lines = [[0, 0], [0, 1], [1, 2 ** 59, 1], [1, 2 ** rest, 1], [4, 1, 2]]
        while len(lines) < 37:
            lines.append([4, len(lines) - 1, 2])
        lines += [[4, 36, 3], [3, 0, 37]]
        return code(1, 1, lines, [38])

    def test_two_thousand(self):
        told = run(self.start(51), implicit(0, 0, [0], [0]), get(0), pull(0, [0], [0], [1]), pull(0, [0], [0], [-1]))
        self.assertEqual(told, [[39], [0], [1, 1, 2 ** 1998, 1], [1, 2 ** 1998, 1], [1, -2 ** 1998, 1]])

    def test_one_above(self):
        told = run(self.start(52), rows_call(0, [[3]]), implicit(0, 0, [0], [0]), get(0), pull(0, [0], [0], [1]),
                   pull(0, [0], [0], [3]), residual(0, [0], [0]))
        self.assertEqual(told[2:], [[-4], [1, 1, 3, 1], [-4], [-4], [1, 0, 1]])

    def test_weights_may_make_it_light_or_heavy(self):
        told = run(self.start(52), pull(0, [0], [0], [HALF]), pull(0, [0], [0], [0]), pull(0, [0], [0], [THIRD]))
        self.assertEqual(told[1:], [[1, 2 ** 1998, 1], [1, 0, 1], [-4]])
        self.assertEqual(run(self.start(51), pull(0, [0], [0], [2]))[1], [-4])

    def test_a_change_may_be_heavier_than_that(self):
        # (x - t) * a with a = 2 ** (59 * 35), where x is t
        lines = [[0, 0], [0, 1], [3, 0, 1], [1, 2 ** 59, 1], [4, 2, 3]]
        while len(lines) < 39:
            lines.append([4, len(lines) - 1, 3])
        told = run(code(1, 1, lines, [38]), implicit(0, 0, [0], [0]), get(0), pull(0, [7], [7], [HALF]))
        self.assertEqual(told, [[39], [0], [1, 1, 1, 1], [1, 1, 2]])

    def test_no_inverse_before_weight(self):
        lines = [[0, 0], [0, 1], [1, 2 ** 59, 1], [4, 1, 2]]
        while len(lines) < 39:
            lines.append([4, len(lines) - 1, 2])
        self.assertEqual(run(code(1, 1, lines, [38]), implicit(0, 0, [5], [0]), pull(0, [5], [0], [1]))[1:], [[-9], [-9]])


class Refused(unittest.TestCase):
    def check(self, refusal, calls):
        """Each call is refused, and behind it the registers and the code are as they were."""
        start = [VIETA, rows_call(0, [[1, 2]]), rows_call(1, [[3]])]
        for call in calls:
            told = run(*start, call, residual(0, [HALF, 2], [1, 1]), *all_six())
            self.assertEqual(told[3], [refusal], call)
            self.assertEqual(told[4:7], [[2, 3, 2, 0, 1], [1, 2, 1, 1, 2, 1], [1, 1, 3, 1]])
            self.assertEqual(told[7:], [[0, 0]] * 4)

    def test_ranges(self):
        at = ([2, 3], [5, 6])
        calls = []
        for number in (-1, 2, GREATEST, -GREATEST):
            calls += [residual(number, *at), implicit(0, number, *at), pull(number, *at, [1, 1])]
        for number in (-1, 6, GREATEST, -GREATEST):
            calls.append(implicit(number, 0, *at))
        self.check(-1, calls)

    def test_lists(self):
        good = counted(pairs([2, 3]))
        one = counted([1, 1, 1, 1])
        calls = []
        for bad in ([], [2], [2, 1], [2, 1, 3], [2, 1, 3, 1, 4], [2, 1, 3, 1, 4, 1], [2, 1, 3, 0], [2, 0, 3, 1],
                    [2, 1, 3, -1], [2, -GREATEST, 3, 1], [1] * 100):
            calls += [[22, 0, *counted(bad), *good], [22, 0, *good, *counted(bad)],
                      [23, 0, 0, *counted(bad), *good], [23, 0, 0, *good, *counted(bad)],
                      [24, 0, *counted(bad), *good, *one], [24, 0, *good, *counted(bad), *one],
                      [24, 0, *counted(pairs([2, 3])), *counted(pairs([5, 6])), *counted(bad)]]
        self.check(-2, calls)

    def test_they_don_t_hold_or_have_no_inverse(self):
        self.check(-10, [implicit(0, 0, [2, 3], [5, 5]), pull(0, [2, 3], [4, 6], [1, 1]), implicit(0, 1, [2, 3], [5, 6]),
                         pull(1, [2, 3], [5, 6], [1, 1])])
        self.check(-9, [implicit(0, 0, [2, 2], [4, 4]), pull(0, [2, 2], [4, 4], [0, 0])])


class Order(unittest.TestCase):
    # (x - t) / u: has a fault where u is 0, holds where x is t
    LINES = [[0, 0], [0, 1], [0, 2], [3, 0, 1], [5, 3, 2]]

    def told(self, *calls):
        return run(code(1, 2, self.LINES, [4]), *calls)[1:]

    def test_range_before_form(self):
        self.assertEqual(self.told(residual(2, [], []), implicit(6, 0, [], []), implicit(0, 2, [1], []),
                                   pull(-1, [], [], [])), [[-1]] * 4)

    def test_range_before_a_fault(self):
        self.assertEqual(self.told(residual(2, [1], [1, 0]), implicit(6, 0, [1], [1, 0]), pull(2, [1], [1, 0], [1])), [[-1]] * 3)

    def test_form_before_a_fault(self):
        self.assertEqual(self.told(residual(0, [1, 1], [1, 0]), implicit(0, 0, [], [1, 0]), pull(0, [1], [1, 0, 0], [1])),
                         [[-2]] * 3)

    def test_a_fault_before_the_weights_form(self):
        self.assertEqual(self.told(pull(0, [1], [1, 0], []), pull(0, [1], [1, 0], [1, 1]), [24, 0, 2, 1, 1, 4, 1, 1, 0, 1, 2, 1, 0],
                                   pull(0, [1], [1], []), pull(0, [1], [1, 1], [])), [[-5], [-5], [-5], [-2], [-2]])

    def test_the_weights_form_before_holding(self):
        self.assertEqual(self.told(pull(0, [1], [2, 1], []), [24, 0, 2, 1, 1, 4, 2, 1, 1, 1, 2, 1, 0], pull(0, [1], [2, 1], [1])),
                         [[-2], [-2], [-10]])

    def test_the_weights_form_before_no_inverse(self):
        told = run(ROOT, pull(0, [0], [0], [1, 2]), pull(0, [0], [0], [1]))
        self.assertEqual(told[1:], [[-2], [-9]])

    def test_a_fault_before_holding(self):
        self.assertEqual(self.told(implicit(0, 0, [1], [2, 0]), pull(0, [1], [2, 0], [1])), [[-5], [-5]])
        lines = [[0, 0], [1, 0, 1], [5, 0, 1], [1, 7, 1]]
        self.assertEqual(run(code(1, 0, lines, [3]), implicit(0, 0, [1], []), pull(0, [1], [], [1]))[1:], [[-5], [-5]])

    def test_holding_before_no_inverse(self):
        told = run(ROOT, implicit(0, 0, [0], [1]), pull(0, [0], [1], [1]), code(1, 0, [[1, 7, 1]], [0]), implicit(0, 0, [0], []),
                   pull(0, [0], [], [1]))
        self.assertEqual(told, [[4], [-10], [-10], [1], [-10], [-10]])

    def test_holding_before_weight(self):
        lines = [[0, 0], [0, 1], [1, 2 ** 59, 1], [4, 1, 2]]
        while len(lines) < 38:
            lines.append([4, len(lines) - 1, 2])
        lines += [[3, 0, 37]]
        told = last(code(1, 1, lines, [38]), implicit(0, 0, [1], [0]))
        self.assertEqual(told, [-10])


if __name__ == "__main__":
    unittest.main()
