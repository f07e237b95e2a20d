"""Line code: what a list of numbers must be to stand for one."""

from exacttables.reader import Reader
from exacttables.refusals import BadList, NotEarlier, TooManyLines

MOST_LINES = 40

INPUT = 0
CONSTANT = 1
SUM = 2
DIFFERENCE = 3
PRODUCT = 4
QUOTIENT = 5
OPPOSITE = 6

# By a line's kind: how many numbers stand behind it.
COUNTS = (1, 2, 2, 2, 2, 2, 1)


class Line:
    """A kind, and the numbers behind it."""

    def __init__(self, kind, numbers):
        self.kind = kind
        self.numbers = numbers


class Code:
    """Lines over so many unknowns and, behind them, parameters; an out for each unknown."""

    def __init__(self, unknowns, parameters, lines, outs):
        self.unknowns = unknowns
        self.parameters = parameters
        self.lines = lines
        self.outs = outs


def take_line(reader):
    """The next line, if its numbers are there and may be those of such a line."""
    kind = reader.take()
    if kind < INPUT or kind > OPPOSITE:
        raise BadList()
    numbers = reader.take_row(COUNTS[kind])
    if len(numbers) != COUNTS[kind]:
        raise BadList()
    if kind == CONSTANT and numbers[1] < 1:
        raise BadList()
    if kind != CONSTANT and min(numbers) < 0:
        raise BadList()
    return Line(kind, numbers)


def lines_of(numbers, inputs):
    """The lines that stand one behind another in the list, over so many inputs."""
    reader = Reader(numbers)
    lines = []
    while not reader.ended():
        lines.append(take_line(reader))
    if len(lines) > MOST_LINES:
        raise TooManyLines()
    for place, line in enumerate(lines):
        need_earlier(line, place, inputs)
    return lines


def need_earlier(line, place, inputs):
    """Refuse a line that uses more than the inputs and the lines ahead of its place."""
    if line.kind == CONSTANT:
        return
    bound = inputs if line.kind == INPUT else place
    if max(line.numbers) >= bound:
        raise NotEarlier()


def need_outs(outs, unknowns, lines):
    """Refuse outs that aren't a line's number for each unknown."""
    if len(outs) != unknowns:
        raise BadList()
    if any([out < 0 or out >= len(lines) for out in outs]):
        raise BadList()


def code_of(unknowns, parameters, numbers, outs):
    """The code told by these lists; the outs are looked at behind all else."""
    lines = lines_of(numbers, unknowns + parameters)
    need_outs(outs, unknowns, lines)
    return Code(unknowns, parameters, lines, outs)
