"""The calls on tables: each takes the shelf and what the call is given, and gives back what is answered.

Each one asks for all ranges first, then for the form of its list; sizes are
looked at by the work on tables, and what is too large where it is put.
"""

from exacttables.fractionlists import fractions_of, told_fractions, told_settled
from exacttables.reducing import reduced
from exacttables.refusals import OutOfRange
from exacttables.shelf import need_place, need_range
from exacttables.solving import inverse_of, kernel_of, solution_of
from exacttables.squares import characteristic_numbers, determinant_of, elimination_of, trace_of
from exacttables.table import LONGEST, are_same, difference_of, entries_of, joined_below, joined_beside, part_of
from exacttables.table import power_of, product_of, scaled, sum_of, table_of, turned, unit_table

HIGHEST_POWER = 12


def put_joined(shelf, given, join):
    """Put what join makes of the tables at p and q."""
    need_place(given[0])
    first = shelf.held(given[1])
    second = shelf.held(given[2])
    shelf.put(given[0], join(first, second))
    return [0]


def call_set(shelf, given):
    """r, h, w, fractions"""
    need_place(given[0])
    height = given[1]
    width = given[2]
    need_range(height, 0, LONGEST)
    need_range(width, 0, LONGEST)
    shelf.put(given[0], table_of(height, width, fractions_of(given[3], height * width)))
    return [0]


def call_get(shelf, given):
    """p"""
    table = shelf.held(given[0])
    return [table.height, table.width] + told_fractions(entries_of(table))


def call_add(shelf, given):
    """r, p, q"""
    return put_joined(shelf, given, sum_of)


def call_sub(shelf, given):
    """r, p, q"""
    return put_joined(shelf, given, difference_of)


def call_mul(shelf, given):
    """r, p, q"""
    return put_joined(shelf, given, product_of)


def call_scale(shelf, given):
    """r, p, n, d"""
    need_place(given[0])
    table = shelf.held(given[1])
    denominator = given[3]
    if denominator < 1:
        raise OutOfRange()
    shelf.put(given[0], scaled(table, (given[2], denominator)))
    return [0]


def call_turn(shelf, given):
    """r, p"""
    need_place(given[0])
    shelf.put(given[0], turned(shelf.held(given[1])))
    return [0]


def call_unit(shelf, given):
    """r, n"""
    need_place(given[0])
    need_range(given[1], 0, LONGEST)
    shelf.put(given[0], unit_table(given[1]))
    return [0]


def call_beside(shelf, given):
    """r, p, q"""
    return put_joined(shelf, given, joined_beside)


def call_below(shelf, given):
    """r, p, q"""
    return put_joined(shelf, given, joined_below)


def call_part(shelf, given):
    """r, p, i, j, h, w"""
    need_place(given[0])
    table = shelf.held(given[1])
    for number in given[2:]:
        need_range(number, 0, LONGEST)
    shelf.put(given[0], part_of(table, given[2], given[3], given[4], given[5]))
    return [0]


def call_power(shelf, given):
    """r, p, k"""
    need_place(given[0])
    table = shelf.held(given[1])
    need_range(given[2], 0, HIGHEST_POWER)
    shelf.put(given[0], power_of(table, given[2]))
    return [0]


def call_reduce(shelf, given):
    """r, p"""
    need_place(given[0])
    result = reduced(shelf.held(given[1]))
    shelf.put(given[0], result.table)
    return [len(result.leading)] + result.leading


def call_det(shelf, given):
    """p"""
    return [0] + told_settled([determinant_of(shelf.held(given[0]))])


def call_inverse(shelf, given):
    """r, p"""
    need_place(given[0])
    shelf.put(given[0], inverse_of(shelf.held(given[1])))
    return [0]


def call_solve(shelf, given):
    """r, p, q"""
    need_place(given[0])
    first = shelf.held(given[1])
    second = shelf.held(given[2])
    solution = solution_of(first, second)
    if solution is None:
        return [1]
    shelf.put(given[0], solution.table)
    return [0 if solution.only else 2]


def call_kernel(shelf, given):
    """r, p"""
    need_place(given[0])
    table = kernel_of(shelf.held(given[1]))
    shelf.put(given[0], table)
    return [table.width]


def call_leading(shelf, given):
    """p"""
    result = elimination_of(shelf.held(given[0]))
    return [result.changes % 2, len(result.numbers)] + result.numbers


def call_char(shelf, given):
    """p"""
    numbers = characteristic_numbers(shelf.held(given[0]))
    return [len(numbers)] + told_settled(numbers)


def call_trace(shelf, given):
    """p"""
    return [0] + told_settled([trace_of(shelf.held(given[0]))])


def call_same(shelf, given):
    """p, q"""
    return [1 if are_same(shelf.held(given[0]), shelf.held(given[1])) else 0]


# By the call's number: what answers it, how many plain numbers it is given, and how many lists behind them.
TABLE_CALLS = (
    (call_set, 3, 1),
    (call_get, 1, 0),
    (call_add, 3, 0),
    (call_sub, 3, 0),
    (call_mul, 3, 0),
    (call_scale, 4, 0),
    (call_turn, 2, 0),
    (call_unit, 2, 0),
    (call_beside, 3, 0),
    (call_below, 3, 0),
    (call_part, 6, 0),
    (call_power, 3, 0),
    (call_reduce, 2, 0),
    (call_det, 1, 0),
    (call_inverse, 2, 0),
    (call_solve, 3, 0),
    (call_kernel, 2, 0),
    (call_leading, 1, 0),
    (call_char, 1, 0),
    (call_trace, 1, 0),
    (call_same, 2, 0),
)
