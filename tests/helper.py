"""Writing calls down, taking answers apart, and a second way of working them out."""

from fractions import Fraction

from exacttables.desk import answers

GREATEST = 10 ** 18
HEAVIEST = 2000


def set_call(r, h, w, *numbers):
    return [0, r, h, w, len(numbers), *numbers]


def rows_call(r, rows):
    """A set call for rows of whole numbers or Fractions, of which there's at least one."""
    numbers = []
    for row in rows:
        for entry in row:
            numbers += [Fraction(entry).numerator, Fraction(entry).denominator]
    return set_call(r, len(rows), len(rows[0]), *numbers)


def get(p):
    return [1, p]


def add(r, p, q):
    return [2, r, p, q]


def sub(r, p, q):
    return [3, r, p, q]


def mul(r, p, q):
    return [4, r, p, q]


def scale(r, p, n, d):
    return [5, r, p, n, d]


def turn(r, p):
    return [6, r, p]


def unit(r, n):
    return [7, r, n]


def beside(r, p, q):
    return [8, r, p, q]


def below(r, p, q):
    return [9, r, p, q]


def part(r, p, i, j, h, w):
    return [10, r, p, i, j, h, w]


def power(r, p, k):
    return [11, r, p, k]


def reduce(r, p):
    return [12, r, p]


def all_six():
    return [get(p) for p in range(6)]


def doubled(r, times):
    """Calls that multiply the table in r by 2 so many times."""
    calls = [scale(r, r, 2 ** 59, 1)] * (times // 59)
    return calls + [scale(r, r, 2 ** (times % 59), 1)]


def halved(r, times):
    calls = [scale(r, r, 1, 2 ** 59)] * (times // 59)
    return calls + [scale(r, r, 1, 2 ** (times % 59))]


def flat(calls):
    return [number for call in calls for number in call]


def taken_apart(told):
    apart = []
    place = 0
    while place < len(told):
        count = told[place]
        apart.append(told[place + 1:place + 1 + count])
        assert len(apart[-1]) == count, "fewer numbers than counted"
        place += 1 + count
    return apart


def run(*calls):
    """The answer of each call."""
    told = answers(flat(calls))
    assert all(type(number) is int for number in told), "not all whole numbers"
    apart = taken_apart(told)
    assert len(apart) == len(calls), "not one answer a call"
    return apart


def last(*calls):
    return run(*calls)[-1]


def table_answer(rows):
    """What get answers for rows of whole numbers or Fractions, of which there's at least one."""
    told = [len(rows), len(rows[0])]
    for row in rows:
        for entry in row:
            told += [Fraction(entry).numerator, Fraction(entry).denominator]
    return told


class Model:
    """The calls once more, word by word as the document tells them, with Python's own Fraction."""

    def __init__(self):
        self.held = [(0, 0, {}) for p in range(6)]

    def answer(self, call):
        name = ("set get add sub mul scale turn unit beside below part power reduce").split()[call[0]]
        return getattr(self, "do_" + name)(*call[1:])

    def keep(self, r, h, w, entry, told=(0,)):
        if h > 6 or w > 6:
            return [-4]
        cells = {(i, j): Fraction(entry(i, j)) for i in range(h) for j in range(w)}
        for cell in cells.values():
            if abs(cell.numerator).bit_length() + cell.denominator.bit_length() > HEAVIEST:
                return [-4]
        self.held[r] = (h, w, cells)
        return list(told)

    def do_set(self, r, h, w, count, *numbers):
        if r not in range(6) or h not in range(7) or w not in range(7):
            return [-1]
        if count != 2 * h * w or any(d < 1 for d in numbers[1::2]):
            return [-2]
        return self.keep(r, h, w, lambda i, j: Fraction(numbers[2 * (i * w + j)], numbers[2 * (i * w + j) + 1]))

    def do_get(self, p):
        if p not in range(6):
            return [-1]
        h, w, cells = self.held[p]
        told = [h, w]
        for i in range(h):
            for j in range(w):
                told += [cells[i, j].numerator, cells[i, j].denominator]
        return told

    def do_add(self, r, p, q, sign=1):
        if not {r, p, q} <= set(range(6)):
            return [-1]
        a, b = self.held[p], self.held[q]
        if a[:2] != b[:2]:
            return [-8]
        return self.keep(r, a[0], a[1], lambda i, j: a[2][i, j] + sign * b[2][i, j])

    def do_sub(self, r, p, q):
        return self.do_add(r, p, q, -1)

    def do_mul(self, r, p, q):
        if not {r, p, q} <= set(range(6)):
            return [-1]
        a, b = self.held[p], self.held[q]
        if a[1] != b[0]:
            return [-8]
        return self.keep(r, a[0], b[1], lambda i, j: sum((a[2][i, k] * b[2][k, j] for k in range(a[1])), Fraction(0)))

    def do_scale(self, r, p, n, d):
        if not {r, p} <= set(range(6)) or d < 1:
            return [-1]
        h, w, cells = self.held[p]
        return self.keep(r, h, w, lambda i, j: cells[i, j] * Fraction(n, d))

    def do_turn(self, r, p):
        if not {r, p} <= set(range(6)):
            return [-1]
        h, w, cells = self.held[p]
        return self.keep(r, w, h, lambda i, j: cells[j, i])

    def do_unit(self, r, n):
        if r not in range(6) or n not in range(7):
            return [-1]
        return self.keep(r, n, n, lambda i, j: int(i == j))

    def do_beside(self, r, p, q):
        if not {r, p, q} <= set(range(6)):
            return [-1]
        a, b = self.held[p], self.held[q]
        if a[0] != b[0]:
            return [-8]
        return self.keep(r, a[0], a[1] + b[1], lambda i, j: a[2][i, j] if j < a[1] else b[2][i, j - a[1]])

    def do_below(self, r, p, q):
        if not {r, p, q} <= set(range(6)):
            return [-1]
        a, b = self.held[p], self.held[q]
        if a[1] != b[1]:
            return [-8]
        return self.keep(r, a[0] + b[0], a[1], lambda i, j: a[2][i, j] if i < a[0] else b[2][i - a[0], j])

    def do_part(self, r, p, i, j, h, w):
        if not {r, p} <= set(range(6)) or not {i, j, h, w} <= set(range(7)):
            return [-1]
        a = self.held[p]
        if i + h > a[0] or j + w > a[1]:
            return [-8]
        return self.keep(r, h, w, lambda y, x: a[2][i + y, j + x])

    def do_power(self, r, p, k):
        if not {r, p} <= set(range(6)) or k not in range(13):
            return [-1]
        n, w, cells = self.held[p]
        if n != w:
            return [-8]
        made = {(i, j): Fraction(int(i == j)) for i in range(n) for j in range(n)}
        for step in range(k):
            made = {(i, j): sum((made[i, x] * cells[x, j] for x in range(n)), Fraction(0))
                    for i in range(n) for j in range(n)}
        return self.keep(r, n, n, lambda i, j: made[i, j])

    def do_reduce(self, r, p):
        if not {r, p} <= set(range(6)):
            return [-1]
        h, w, cells = self.held[p]
        rows = [[cells[i, j] for j in range(w)] for i in range(h)]
        leading = []
        for c in range(w):
            top = len(leading)
            found = [i for i in range(top, h) if rows[i][c] != 0]
            if not found:
                continue
            rows[found[0]], rows[top] = rows[top], rows[found[0]]
            rows[top] = [entry / rows[top][c] for entry in rows[top]]
            for i in range(h):
                if i != top:
                    rows[i] = [x - rows[i][c] * y for x, y in zip(rows[i], rows[top])]
            leading.append(c)
        return self.keep(r, h, w, lambda i, j: rows[i][j], [len(leading)] + leading)


def model_answers(calls):
    model = Model()
    return [model.answer(call) for call in calls]
