"""Tables of fractions, and the ways to make one from others.

The tables that come in are in lowest terms. Those that go out needn't be, and
may be too large to keep: settled_table looks at that, behind all other checks.
No table is changed once it is made, so tables may share their rows.
"""

from exacttables.fraction import common_denominator, numerators_over, plus, settled_fraction, times
from exacttables.refusals import SizesDontFit, TooLarge

LONGEST = 6


class Table:
    """Rows of fractions; without rows it still has a width, so both sizes are kept."""

    def __init__(self, height, width, rows):
        self.height = height
        self.width = width
        self.rows = rows


def table_of(height, width, fractions):
    """The table with these entries, told row after row."""
    return Table(height, width, [fractions[i * width:(i + 1) * width] for i in range(height)])


def entries_of(table):
    """All entries in one list, row after row."""
    entries = []
    for row in table.rows:
        entries.extend(row)
    return entries


def settled_table(table):
    """The table as it may be kept: small enough, and in lowest terms."""
    if table.height > LONGEST or table.width > LONGEST:
        raise TooLarge()
    return Table(table.height, table.width, [[settled_fraction(entry) for entry in row] for row in table.rows])


def need_square(table):
    """Refuse a table with more rows than columns, or the other way round."""
    if table.height != table.width:
        raise SizesDontFit()


def are_same(first, second):
    """Whether two tables in lowest terms have the same rows, columns and entries."""
    return first.height == second.height and first.width == second.width and first.rows == second.rows


def sum_of(first, second):
    """Entry by entry the sum."""
    if first.height != second.height or first.width != second.width:
        raise SizesDontFit()
    rows = [[plus(x, y) for x, y in zip(left, right)] for left, right in zip(first.rows, second.rows)]
    return Table(first.height, first.width, rows)


def difference_of(first, second):
    """Entry by entry the first less the second."""
    return sum_of(first, scaled(second, (-1, 1)))


def scaled(table, factor):
    """Every entry times the factor, a fraction."""
    return Table(table.height, table.width, [[times(entry, factor) for entry in row] for row in table.rows])


def turned(table):
    """The table whose rows are this one's columns."""
    return Table(table.width, table.height, [[row[j] for row in table.rows] for j in range(table.width)])


def joined_beside(first, second):
    """The first with the second's columns behind its own."""
    if first.height != second.height:
        raise SizesDontFit()
    rows = [left + right for left, right in zip(first.rows, second.rows)]
    return Table(first.height, first.width + second.width, rows)


def joined_below(first, second):
    """The first with the second's rows behind its own."""
    if first.width != second.width:
        raise SizesDontFit()
    return Table(first.height + second.height, first.width, first.rows + second.rows)


def part_of(table, top, left, height, width):
    """The rows from top on and the columns from left on, as many as told."""
    if top + height > table.height or left + width > table.width:
        raise SizesDontFit()
    rows = [row[left:left + width] for row in table.rows[top:top + height]]
    return Table(height, width, rows)


def whole_unit(size):
    """The rows of the unit table, as whole numbers."""
    return [[1 if i == j else 0 for j in range(size)] for i in range(size)]


def whole_product(left, right, width):
    """The product of two tables of whole numbers; width is the right one's, which may have no rows."""
    return [[sum([row[k] * right[k][j] for k in range(len(row))]) for j in range(width)] for row in left]


def whole_rows(table, common):
    """The numerators of the table's entries when all are written over common."""
    return [numerators_over(row, common) for row in table.rows]


def rows_over(rows, denominator):
    """Rows of fractions out of rows of numerators."""
    return [[(entry, denominator) for entry in row] for row in rows]


def unit_table(size):
    """1 where row and column have the same number, else 0."""
    return Table(size, size, rows_over(whole_unit(size), 1))


def product_of(first, second):
    """The product; one denominator for each table leaves only whole numbers to multiply."""
    if first.width != second.height:
        raise SizesDontFit()
    first_common = common_denominator(entries_of(first))
    second_common = common_denominator(entries_of(second))
    rows = whole_product(whole_rows(first, first_common), whole_rows(second, second_common), second.width)
    return Table(first.height, second.width, rows_over(rows, first_common * second_common))


def power_of(table, exponent):
    """The product of so many factors; what lies between may be heavier than what is kept."""
    need_square(table)
    common = common_denominator(entries_of(table))
    factor = whole_rows(table, common)
    rows = whole_unit(table.height)
    denominator = 1
    for step in range(exponent):
        rows = whole_product(rows, factor, table.width)
        denominator = denominator * common
    return Table(table.height, table.width, rows_over(rows, denominator))
