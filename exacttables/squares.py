"""What a square table tells: leading numbers, determinant, trace and characteristic numbers.

All of it is worked out with whole numbers; the table's denominators are
divided by at the end.
"""

from exacttables.fraction import common_denominator, numerators_over
from exacttables.reducing import change_rows, cleared_row, first_filled
from exacttables.refusals import NoResult
from exacttables.table import entries_of, need_square, whole_product, whole_rows, whole_unit


class Elimination:
    """How often rows were changed, and the leading numbers."""

    def __init__(self, changes, numbers):
        self.changes = changes
        self.numbers = numbers


def eliminated(rows):
    """The elimination of a square table of whole numbers, given as its rows."""
    left = list(rows)
    changes = 0
    numbers = []
    before = 1
    for k in range(len(rows)):
        found = first_filled(left, k, k)
        if found is None:
            numbers.append(0)
            break
        if found != k:
            change_rows(left, found, k)
            changes += 1
        leader = left[k]
        left = left[:k + 1] + [cleared_row(row, leader, k, before) for row in left[k + 1:]]
        before = leader[k]
        numbers.append(before)
    return Elimination(changes, numbers)


def elimination_of(table):
    """The elimination of the table, whose entries must be whole."""
    need_square(table)
    if any([entry[1] != 1 for entry in entries_of(table)]):
        raise NoResult()
    return eliminated(whole_rows(table, 1))


def determinant_of(table):
    """The last leading number is the determinant, with the other sign for each change of rows."""
    need_square(table)
    commons = [common_denominator(row) for row in table.rows]
    result = eliminated([numerators_over(row, common) for row, common in zip(table.rows, commons)])
    above = result.numbers[-1] if table.height > 0 else 1
    if result.changes % 2 == 1:
        above = -above
    below = 1
    for common in commons:
        below = below * common
    return (above, below)


def trace_of(table):
    """The sum of the entries whose row and column have the same number."""
    need_square(table)
    diagonal = [row[i] for i, row in enumerate(table.rows)]
    common = common_denominator(diagonal)
    return (sum(numerators_over(diagonal, common)), common)


def with_added(rows, number):
    """The rows with the number added where row and column have the same number."""
    return [[entry + number if i == j else entry for j, entry in enumerate(row)] for i, row in enumerate(rows)]


def characteristic_numbers(table):
    """The characteristic numbers, worked out for the table times its common denominator.

    That makes the k-th one greater by the k-th power of the denominator, and whole.
    """
    need_square(table)
    common = common_denominator(entries_of(table))
    factor = whole_rows(table, common)
    made = whole_unit(table.height)
    numbers = [(1, 1)]
    below = 1
    for k in range(1, table.height + 1):
        made = whole_product(factor, made, table.width)
        number = -sum([row[i] for i, row in enumerate(made)]) // k
        made = with_added(made, number)
        below = below * common
        numbers.append((number, below))
    return numbers
