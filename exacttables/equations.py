"""Equations told by line code: whether they hold at a point, and how the unknowns move there."""

from exacttables.fraction import lowest, minus
from exacttables.refusals import DontHold
from exacttables.running import changes_of, values_of
from exacttables.solving import divided_off
from exacttables.table import Table, scaled, turned

FIXED_POINT = 1


class Point:
    """A code's equations of one kind, run at inputs."""

    def __init__(self, code, kind, inputs):
        self.code = code
        self.kind = kind
        self.inputs = [lowest(fraction) for fraction in inputs]
        self.worked = values_of(code.lines, self.inputs)


def residual_at(point):
    """What each equation leaves; not in lowest terms."""
    left = [point.worked[out] for out in point.code.outs]
    if point.kind == FIXED_POINT:
        # The inputs begin with the unknowns, one for each out.
        left = [minus(value, unknown) for value, unknown in zip(left, point.inputs)]
    return left


def need_hold(point):
    """Refuse a point at which an equation doesn't leave 0."""
    if any([fraction[0] != 0 for fraction in residual_at(point)]):
        raise DontHold()


def derivatives_by(point, k):
    """For each equation the derivative of what it leaves by input k."""
    direction = [(1, 1) if place == k else (0, 1) for place in range(len(point.inputs))]
    changes = changes_of(point.code.lines, point.worked, direction)
    left = [changes[out] for out in point.code.outs]
    if point.kind == FIXED_POINT:
        left = [minus(change, unknown) for change, unknown in zip(left, direction)]
    return left


def moves_at(point):
    """The derivatives of the unknowns by the parameters, where the equations hold."""
    need_hold(point)
    columns = [derivatives_by(point, k) for k in range(len(point.inputs))]
    joined = turned(Table(len(point.inputs), point.code.unknowns, columns))
    return scaled(divided_off(joined), (-1, 1))
