"""Inverses, solutions and kernels, each read off a reduced table."""

from exacttables.fraction import opposite
from exacttables.reducing import reduced
from exacttables.refusals import NoResult
from exacttables.table import Table, joined_beside, need_square, part_of, unit_table


class Solution:
    """A table that solves the equations, and whether it is the only one."""

    def __init__(self, table, only):
        self.table = table
        self.only = only


def divided_off(joined):
    """The columns behind the square of the first ones, times that square's inverse."""
    size = joined.height
    result = reduced(joined)
    if result.leading != list(range(size)):
        raise NoResult()
    return part_of(result.table, 0, size, size, joined.width - size)


def inverse_of(table):
    """The table that, times this one, gives the unit table."""
    need_square(table)
    return divided_off(joined_beside(table, unit_table(table.height)))


def solution_of(first, second):
    """A table that the first must be multiplied by to give the second, or None."""
    result = reduced(joined_beside(first, second))
    if any([column >= first.width for column in result.leading]):
        return None
    rows = [[(0, 1)] * second.width for column in range(first.width)]
    for r, column in enumerate(result.leading):
        rows[column] = result.table.rows[r][first.width:]
    return Solution(Table(first.width, second.width, rows), len(result.leading) == first.width)


def kernel_of(table):
    """The kernel: a column for each free column."""
    result = reduced(table)
    free = [column for column in range(table.width) if column not in result.leading]
    rows = [[(1, 1) if column == f else (0, 1) for f in free] for column in range(table.width)]
    for r, column in enumerate(result.leading):
        rows[column] = [opposite(result.table.rows[r][f]) for f in free]
    return Table(table.width, len(free), rows)
