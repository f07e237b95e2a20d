"""Running line code: the lines' values, and their changes along a direction."""

from exacttables.fraction import lowest, minus, opposite, over, plus, times, weight
from exacttables.linecode import CONSTANT, DIFFERENCE, INPUT, OPPOSITE, PRODUCT, QUOTIENT, SUM
from exacttables.refusals import FaultyRun

HEAVIEST_VALUE = 200


def value_of(line, inputs, values):
    """The line's value, with those of the earlier lines at hand; not in lowest terms."""
    if line.kind == INPUT:
        return inputs[line.numbers[0]]
    if line.kind == CONSTANT:
        return (line.numbers[0], line.numbers[1])
    first = values[line.numbers[0]]
    if line.kind == OPPOSITE:
        return opposite(first)
    second = values[line.numbers[1]]
    if line.kind == QUOTIENT and second[0] == 0:
        raise FaultyRun()
    if line.kind == SUM:
        return plus(first, second)
    if line.kind == DIFFERENCE:
        return minus(first, second)
    if line.kind == PRODUCT:
        return times(first, second)
    return over(first, second)


def values_of(lines, inputs):
    """The value of each line, in order."""
    values = []
    for line in lines:
        value = lowest(value_of(line, inputs, values))
        if weight(value) > HEAVIEST_VALUE:
            raise FaultyRun()
        values.append(value)
    return values


def change_of(line, value, direction, values, changes):
    """The line's change, with those of the earlier lines at hand; not in lowest terms."""
    if line.kind == INPUT:
        return direction[line.numbers[0]]
    if line.kind == CONSTANT:
        return (0, 1)
    first = changes[line.numbers[0]]
    if line.kind == OPPOSITE:
        return opposite(first)
    second = changes[line.numbers[1]]
    if line.kind == SUM:
        return plus(first, second)
    if line.kind == DIFFERENCE:
        return minus(first, second)
    if line.kind == PRODUCT:
        return plus(times(first, values[line.numbers[1]]), times(values[line.numbers[0]], second))
    return over(minus(first, times(value, second)), values[line.numbers[1]])


def changes_of(lines, values, direction):
    """The change of each line along the direction, where the lines have these values."""
    changes = []
    for line, value in zip(lines, values):
        changes.append(lowest(change_of(line, value, direction, values, changes)))
    return changes
