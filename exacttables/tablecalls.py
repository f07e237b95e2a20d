"""The calls on tables: each takes the shelf and what the call is given, and gives back what is answered.

Each one asks for all ranges first, then for the form of its list; sizes are
looked at by the work on tables, and what is too large where it is put.
"""

from exacttables.refusals import BadList, OutOfRange
from exacttables.reducing import reduced
from exacttables.shelf import need_place, need_range
from exacttables.table import LONGEST, difference_of, entries_of, joined_below, joined_beside, part_of
from exacttables.table import power_of, product_of, scaled, sum_of, table_of, turned, unit_table

HIGHEST_POWER = 12


def fractions_of(numbers, count):
    """Just so many fractions, told as two numbers each."""
    if len(numbers) != 2 * count:
        raise BadList()
    fractions = [(numbers[2 * k], numbers[2 * k + 1]) for k in range(count)]
    if any([fraction[1] < 1 for fraction in fractions]):
        raise BadList()
    return fractions


def told_fractions(fractions):
    """Two numbers for each fraction."""
    told = []
    for fraction in fractions:
        told.extend(fraction)
    return told


def put_joined(shelf, given, join):
    """Put what join makes of the tables at p and q."""
    need_place(given[0])
    first = shelf.held(given[1])
    second = shelf.held(given[2])
    shelf.put(given[0], join(first, second))
    return [0]


def call_set(shelf, given):
    """r, h, w, fractions"""
    need_place(given[0])
    height = given[1]
    width = given[2]
    need_range(height, 0, LONGEST)
    need_range(width, 0, LONGEST)
    shelf.put(given[0], table_of(height, width, fractions_of(given[3], height * width)))
    return [0]


def call_get(shelf, given):
    """p"""
    table = shelf.held(given[0])
    return [table.height, table.width] + told_fractions(entries_of(table))


def call_add(shelf, given):
    """r, p, q"""
    return put_joined(shelf, given, sum_of)


def call_sub(shelf, given):
    """r, p, q"""
    return put_joined(shelf, given, difference_of)


def call_mul(shelf, given):
    """r, p, q"""
    return put_joined(shelf, given, product_of)


def call_scale(shelf, given):
    """r, p, n, d"""
    need_place(given[0])
    table = shelf.held(given[1])
    denominator = given[3]
    if denominator < 1:
        raise OutOfRange()
    shelf.put(given[0], scaled(table, (given[2], denominator)))
    return [0]


def call_turn(shelf, given):
    """r, p"""
    need_place(given[0])
    shelf.put(given[0], turned(shelf.held(given[1])))
    return [0]


def call_unit(shelf, given):
    """r, n"""
    need_place(given[0])
    need_range(given[1], 0, LONGEST)
    shelf.put(given[0], unit_table(given[1]))
    return [0]


def call_beside(shelf, given):
    """r, p, q"""
    return put_joined(shelf, given, joined_beside)


def call_below(shelf, given):
    """r, p, q"""
    return put_joined(shelf, given, joined_below)


def call_part(shelf, given):
    """r, p, i, j, h, w"""
    need_place(given[0])
    table = shelf.held(given[1])
    for number in given[2:]:
        need_range(number, 0, LONGEST)
    shelf.put(given[0], part_of(table, given[2], given[3], given[4], given[5]))
    return [0]


def call_power(shelf, given):
    """r, p, k"""
    need_place(given[0])
    table = shelf.held(given[1])
    need_range(given[2], 0, HIGHEST_POWER)
    shelf.put(given[0], power_of(table, given[2]))
    return [0]


def call_reduce(shelf, given):
    """r, p"""
    need_place(given[0])
    result = reduced(shelf.held(given[1]))
    shelf.put(given[0], result.table)
    return [len(result.leading)] + result.leading


# By the call's number: what answers it, how many plain numbers it is given, and how many lists behind them.
TABLE_CALLS = (
    (call_set, 3, 1),
    (call_get, 1, 0),
    (call_add, 3, 0),
    (call_sub, 3, 0),
    (call_mul, 3, 0),
    (call_scale, 4, 0),
    (call_turn, 2, 0),
    (call_unit, 2, 0),
    (call_beside, 3, 0),
    (call_below, 3, 0),
    (call_part, 6, 0),
    (call_power, 3, 0),
    (call_reduce, 2, 0),
)
