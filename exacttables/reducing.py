"""Reducing a table.

A table's reduced form doesn't change when a row is multiplied by a number that
isn't 0. So each row is made whole first, and the elimination stays with whole
numbers: dividing by the number before comes out even at each step, and no
lowest terms are looked for on the way.
"""

from exacttables.fraction import common_denominator, numerators_over
from exacttables.table import Table, rows_over


class Reduced:
    """A reduced table and its leading columns, whose number is the rank."""

    def __init__(self, table, leading):
        self.table = table
        self.leading = leading


def first_filled(rows, start, column):
    """The first row from start on that isn't 0 in the column, or None."""
    for i in range(start, len(rows)):
        if rows[i][column] != 0:
            return i
    return None


def change_rows(rows, first, second):
    """Put each of the two rows in the other's place."""
    kept = rows[first]
    rows[first] = rows[second]
    rows[second] = kept


def cleared_row(row, leader, column, before):
    """The row with so much of the leader taken that it is 0 in the column."""
    return [(leader[column] * x - row[column] * y) // before for x, y in zip(row, leader)]


def reduced(table):
    """The table reduced; every leading entry is the same number until the end, and is divided by there."""
    rows = [numerators_over(row, common_denominator(row)) for row in table.rows]
    leading = []
    before = 1
    for column in range(table.width):
        r = len(leading)
        found = first_filled(rows, r, column)
        if found is None:
            continue
        change_rows(rows, found, r)
        leader = rows[r]
        rows = [row if i == r else cleared_row(row, leader, column, before) for i, row in enumerate(rows)]
        before = leader[column]
        leading.append(column)
    return Reduced(Table(table.height, table.width, rows_over(rows, before)), leading)
