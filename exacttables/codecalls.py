"""The calls on equations; they take and give back the same as the calls on tables.

Ranges are asked for first, then the form of the lists; then the code is run,
and what is told or put is looked at in the end.
"""

from exacttables.equations import Point, moves_at, residual_at
from exacttables.fractionlists import fractions_of, told_settled
from exacttables.linecode import code_of
from exacttables.shelf import need_place, need_range
from exacttables.table import entries_of, product_of, table_of

MOST_UNKNOWNS = 4
MOST_PARAMETERS = 4


def point_of(code, kind, unknowns, parameters):
    """The equations of that kind, run at the fractions of these two lists."""
    inputs = fractions_of(unknowns, code.unknowns) + fractions_of(parameters, code.parameters)
    return Point(code, kind, inputs)


def need_kind(number):
    """Refuse a number that isn't one of a kind of equations."""
    need_range(number, 0, 1)


def call_code(shelf, given):
    """n, m, lines, outs"""
    need_range(given[0], 1, MOST_UNKNOWNS)
    need_range(given[1], 0, MOST_PARAMETERS)
    shelf.code = code_of(given[0], given[1], given[2], given[3])
    return [len(shelf.code.lines)]


def call_residual(shelf, given):
    """kind, unknowns, parameters"""
    need_kind(given[0])
    left = residual_at(point_of(shelf.code, given[0], given[1], given[2]))
    return [len(left)] + told_settled(left)


def call_implicit(shelf, given):
    """r, kind, unknowns, parameters"""
    need_place(given[0])
    need_kind(given[1])
    shelf.put(given[0], moves_at(point_of(shelf.code, given[1], given[2], given[3])))
    return [0]


def call_pull(shelf, given):
    """kind, unknowns, parameters, weights"""
    need_kind(given[0])
    code = shelf.code
    point = point_of(code, given[0], given[1], given[2])
    # A fault of the run is told ahead of a wrong list of weights.
    weights = table_of(1, code.unknowns, fractions_of(given[3], code.unknowns))
    pulled = entries_of(product_of(weights, moves_at(point)))
    return [len(pulled)] + told_settled(pulled)


# By the call's number less that of the first one here, as in tablecalls.
CODE_CALLS = (
    (call_code, 2, 2),
    (call_residual, 1, 2),
    (call_implicit, 2, 2),
    (call_pull, 1, 3),
)
