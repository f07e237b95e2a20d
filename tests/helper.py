"""Writing calls down, taking answers apart, and a second way of working them out."""

from fractions import Fraction

from exacttables.desk import answers

GREATEST = 10 ** 18
HEAVIEST = 2000


def set_call(r, h, w, *numbers):
    return [0, r, h, w, len(numbers), *numbers]


def rows_call(r, rows):
    """A set call for rows of whole numbers or Fractions, of which there's at least one."""
    numbers = []
    for row in rows:
        for entry in row:
            numbers += [Fraction(entry).numerator, Fraction(entry).denominator]
    return set_call(r, len(rows), len(rows[0]), *numbers)


def get(p):
    return [1, p]


def add(r, p, q):
    return [2, r, p, q]


def sub(r, p, q):
    return [3, r, p, q]


def mul(r, p, q):
    return [4, r, p, q]


def scale(r, p, n, d):
    return [5, r, p, n, d]


def turn(r, p):
    return [6, r, p]


def unit(r, n):
    return [7, r, n]


def beside(r, p, q):
    return [8, r, p, q]


def below(r, p, q):
    return [9, r, p, q]


def part(r, p, i, j, h, w):
    return [10, r, p, i, j, h, w]


def power(r, p, k):
    return [11, r, p, k]


def reduce(r, p):
    return [12, r, p]


def det(p):
    return [13, p]


def inverse(r, p):
    return [14, r, p]


def solve(r, p, q):
    return [15, r, p, q]


def kernel(r, p):
    return [16, r, p]


def leading(p):
    return [17, p]


def char(p):
    return [18, p]


def trace(p):
    return [19, p]


def same(p, q):
    return [20, p, q]


def counted(numbers):
    return [len(numbers), *numbers]


def pairs(fractions):
    """Two numbers for each of these whole numbers or Fractions."""
    return [number for entry in fractions for number in (Fraction(entry).numerator, Fraction(entry).denominator)]


def raw_code(n, m, numbers, outs):
    return [21, n, m, *counted(numbers), *counted(outs)]


def code(n, m, lines, outs):
    """A code call for lines that are told one by one."""
    return raw_code(n, m, flat(lines), outs)


def residual(kind, unknowns, parameters):
    return [22, kind, *counted(pairs(unknowns)), *counted(pairs(parameters))]


def implicit(r, kind, unknowns, parameters):
    return [23, r, kind, *counted(pairs(unknowns)), *counted(pairs(parameters))]


def pull(kind, unknowns, parameters, weights):
    return [24, kind, *counted(pairs(unknowns)), *counted(pairs(parameters)), *counted(pairs(weights))]


def all_six():
    return [get(p) for p in range(6)]


def doubled(r, times):
    """Calls that multiply the table in r by 2 so many times."""
    calls = [scale(r, r, 2 ** 59, 1)] * (times // 59)
    return calls + [scale(r, r, 2 ** (times % 59), 1)]


def halved(r, times):
    calls = [scale(r, r, 1, 2 ** 59)] * (times // 59)
    return calls + [scale(r, r, 1, 2 ** (times % 59))]


def flat(calls):
    return [number for call in calls for number in call]


def taken_apart(told):
    apart = []
    place = 0
    while place < len(told):
        count = told[place]
        apart.append(told[place + 1:place + 1 + count])
        assert len(apart[-1]) == count, "fewer numbers than counted"
        place += 1 + count
    return apart


def run(*calls):
    """The answer of each call."""
    told = answers(flat(calls))
    assert all(type(number) is int for number in told), "not all whole numbers"
    apart = taken_apart(told)
    assert len(apart) == len(calls), "not one answer a call"
    return apart


def last(*calls):
    return run(*calls)[-1]


def table_answer(rows):
    """What get answers for rows of whole numbers or Fractions, of which there's at least one."""
    told = [len(rows), len(rows[0])]
    for row in rows:
        for entry in row:
            told += [Fraction(entry).numerator, Fraction(entry).denominator]
    return told


def weight(value):
    """The bits of numerator and denominator, counted as binary digits are written."""
    return len(bin(abs(value.numerator))) - 2 - (value == 0) + len(bin(value.denominator)) - 2


def reduced_rows(rows, w):
    """The rows reduced, and the leading columns."""
    rows = [list(row) for row in rows]
    h = len(rows)
    leaders = []
    for c in range(w):
        top = len(leaders)
        found = [i for i in range(top, h) if rows[i][c] != 0]
        if not found:
            continue
        rows[found[0]], rows[top] = rows[top], rows[found[0]]
        rows[top] = [entry / rows[top][c] for entry in rows[top]]
        for i in range(h):
            if i != top:
                rows[i] = [x - rows[i][c] * y for x, y in zip(rows[i], rows[top])]
        leaders.append(c)
    return rows, leaders


def expanded(rows):
    """The determinant, along the first row."""
    if not rows:
        return Fraction(1)
    return sum((-1) ** j * entry * expanded([row[:j] + row[j + 1:] for row in rows[1:]])
               for j, entry in enumerate(rows[0]) if entry != 0) + Fraction(0)


def adjugate_inverse(rows):
    """The inverse by the determinants of the smaller tables, or None."""
    whole = expanded(rows)
    if whole == 0:
        return None
    n = len(rows)

    def without(i, j):
        return [row[:j] + row[j + 1:] for k, row in enumerate(rows) if k != i]

    return [[(-1) ** (i + j) * expanded(without(j, i)) / whole for j in range(n)] for i in range(n)]


def split_lists(numbers):
    """The lists that stand one behind another, each with its length ahead of it."""
    lists = []
    place = 0
    while place < len(numbers):
        lists.append(list(numbers[place + 1:place + 1 + numbers[place]]))
        place += 1 + numbers[place]
    return lists


def read_fractions(numbers, count):
    """So many Fractions, or None if the list isn't of that form."""
    if len(numbers) != 2 * count or any(d < 1 for d in numbers[1::2]):
        return None
    return [Fraction(a, d) for a, d in zip(numbers[::2], numbers[1::2])]


class Faulty(Exception):
    pass


def run_code(lines, inputs):
    values = []
    for kind, *given in lines:
        if kind == 5 and values[given[1]] == 0:
            raise Faulty()
        value = (lambda: inputs[given[0]], lambda: Fraction(*given),
                 lambda: values[given[0]] + values[given[1]], lambda: values[given[0]] - values[given[1]],
                 lambda: values[given[0]] * values[given[1]], lambda: values[given[0]] / values[given[1]],
                 lambda: -values[given[0]])[kind]()
        if weight(value) > 200:
            raise Faulty()
        values.append(value)
    return values


def back_derivatives(lines, values, out, count):
    """The derivatives of one line by each input, from the line back to the inputs."""
    pulls = [Fraction(0)] * len(lines)
    pulls[out] = Fraction(1)
    by_input = [Fraction(0)] * count
    for place in range(out, -1, -1):
        kind, *given = lines[place]
        bar = pulls[place]
        if bar == 0 or kind == 1:
            continue
        if kind == 0:
            by_input[given[0]] += bar
        elif kind == 6:
            pulls[given[0]] -= bar
        else:
            i, j = given
            to_first, to_second = {2: (1, 1), 3: (1, -1), 4: (values[j], values[i]),
                                   5: (values[j] and 1 / values[j], values[j] and -values[place] / values[j])}[kind]
            pulls[i] += bar * to_first
            pulls[j] += bar * to_second
    return by_input


class Model:
    """The calls once more, word by word as the document tells them, with Python's own Fraction."""

    NAMES = ("set get add sub mul scale turn unit beside below part power reduce det inverse solve kernel leading char "
             "trace same code residual implicit pull").split()

    def __init__(self):
        self.held = [(0, 0, {}) for p in range(6)]
        self.code = (0, 0, [], [])

    def answer(self, call):
        return getattr(self, "do_" + self.NAMES[call[0]])(*call[1:])

    def tell(self, ahead, fractions):
        if any(weight(entry) > HEAVIEST for entry in fractions):
            return [-4]
        return ahead + pairs(fractions)

    def keep(self, r, h, w, entry, told=(0,)):
        if h > 6 or w > 6:
            return [-4]
        cells = {(i, j): Fraction(entry(i, j)) for i in range(h) for j in range(w)}
        if any(weight(cell) > HEAVIEST for cell in cells.values()):
            return [-4]
        self.held[r] = (h, w, cells)
        return list(told)

    def do_set(self, r, h, w, count, *numbers):
        if r not in range(6) or h not in range(7) or w not in range(7):
            return [-1]
        if count != 2 * h * w or any(d < 1 for d in numbers[1::2]):
            return [-2]
        return self.keep(r, h, w, lambda i, j: Fraction(numbers[2 * (i * w + j)], numbers[2 * (i * w + j) + 1]))

    def do_get(self, p):
        if p not in range(6):
            return [-1]
        h, w, cells = self.held[p]
        told = [h, w]
        for i in range(h):
            for j in range(w):
                told += [cells[i, j].numerator, cells[i, j].denominator]
        return told

    def do_add(self, r, p, q, sign=1):
        if not {r, p, q} <= set(range(6)):
            return [-1]
        a, b = self.held[p], self.held[q]
        if a[:2] != b[:2]:
            return [-8]
        return self.keep(r, a[0], a[1], lambda i, j: a[2][i, j] + sign * b[2][i, j])

    def do_sub(self, r, p, q):
        return self.do_add(r, p, q, -1)

    def do_mul(self, r, p, q):
        if not {r, p, q} <= set(range(6)):
            return [-1]
        a, b = self.held[p], self.held[q]
        if a[1] != b[0]:
            return [-8]
        return self.keep(r, a[0], b[1], lambda i, j: sum((a[2][i, k] * b[2][k, j] for k in range(a[1])), Fraction(0)))

    def do_scale(self, r, p, n, d):
        if not {r, p} <= set(range(6)) or d < 1:
            return [-1]
        h, w, cells = self.held[p]
        return self.keep(r, h, w, lambda i, j: cells[i, j] * Fraction(n, d))

    def do_turn(self, r, p):
        if not {r, p} <= set(range(6)):
            return [-1]
        h, w, cells = self.held[p]
        return self.keep(r, w, h, lambda i, j: cells[j, i])

    def do_unit(self, r, n):
        if r not in range(6) or n not in range(7):
            return [-1]
        return self.keep(r, n, n, lambda i, j: int(i == j))

    def do_beside(self, r, p, q):
        if not {r, p, q} <= set(range(6)):
            return [-1]
        a, b = self.held[p], self.held[q]
        if a[0] != b[0]:
            return [-8]
        return self.keep(r, a[0], a[1] + b[1], lambda i, j: a[2][i, j] if j < a[1] else b[2][i, j - a[1]])

    def do_below(self, r, p, q):
        if not {r, p, q} <= set(range(6)):
            return [-1]
        a, b = self.held[p], self.held[q]
        if a[1] != b[1]:
            return [-8]
        return self.keep(r, a[0] + b[0], a[1], lambda i, j: a[2][i, j] if i < a[0] else b[2][i - a[0], j])

    def do_part(self, r, p, i, j, h, w):
        if not {r, p} <= set(range(6)) or not {i, j, h, w} <= set(range(7)):
            return [-1]
        a = self.held[p]
        if i + h > a[0] or j + w > a[1]:
            return [-8]
        return self.keep(r, h, w, lambda y, x: a[2][i + y, j + x])

    def do_power(self, r, p, k):
        if not {r, p} <= set(range(6)) or k not in range(13):
            return [-1]
        n, w, cells = self.held[p]
        if n != w:
            return [-8]
        made = {(i, j): Fraction(int(i == j)) for i in range(n) for j in range(n)}
        for step in range(k):
            made = {(i, j): sum((made[i, x] * cells[x, j] for x in range(n)), Fraction(0))
                    for i in range(n) for j in range(n)}
        return self.keep(r, n, n, lambda i, j: made[i, j])

    def do_reduce(self, r, p):
        if not {r, p} <= set(range(6)):
            return [-1]
        h, w, cells = self.held[p]
        rows, leaders = reduced_rows([[cells[i, j] for j in range(w)] for i in range(h)], w)
        return self.keep(r, h, w, lambda i, j: rows[i][j], [len(leaders)] + leaders)

    def rows(self, p):
        h, w, cells = self.held[p]
        return [[cells[i, j] for j in range(w)] for i in range(h)]

    def unfit_square(self, *places):
        """The refusal of a call on a square table, the last of these places; None if there's none."""
        if not set(places) <= set(range(6)):
            return [-1]
        if self.held[places[-1]][0] != self.held[places[-1]][1]:
            return [-8]
        return None

    def do_det(self, p):
        return self.unfit_square(p) or self.tell([0], [expanded(self.rows(p))])

    def do_inverse(self, r, p):
        refused = self.unfit_square(r, p)
        if refused:
            return refused
        rows = adjugate_inverse(self.rows(p))
        if rows is None:
            return [-9]
        return self.keep(r, len(rows), len(rows), lambda i, j: rows[i][j])

    def do_solve(self, r, p, q):
        if not {r, p, q} <= set(range(6)):
            return [-1]
        if self.held[p][0] != self.held[q][0]:
            return [-8]
        w, across = self.held[p][1], self.held[q][1]
        rows, leaders = reduced_rows([a + b for a, b in zip(self.rows(p), self.rows(q))], w + across)
        if any(c >= w for c in leaders):
            return [1]
        made = {c: rows[k][w:] for k, c in enumerate(leaders)}
        return self.keep(r, w, across, lambda i, j: made[i][j] if i in made else 0, [0 if len(leaders) == w else 2])

    def do_kernel(self, r, p):
        if not {r, p} <= set(range(6)):
            return [-1]
        w = self.held[p][1]
        rows, leaders = reduced_rows(self.rows(p), w)
        free = [c for c in range(w) if c not in leaders]
        return self.keep(r, w, len(free), lambda i, j: int(i == free[j]) if i in free
                         else -rows[leaders.index(i)][free[j]], [len(free)])

    def do_leading(self, p):
        refused = self.unfit_square(p)
        if refused:
            return refused
        rows = self.rows(p)
        if any(entry.denominator != 1 for row in rows for entry in row):
            return [-9]
        n, before, swaps, numbers = len(rows), Fraction(1), 0, []
        for k in range(n):
            found = [i for i in range(k, n) if rows[i][k] != 0]
            if not found:
                numbers.append(Fraction(0))
                break
            if found[0] != k:
                rows[k], rows[found[0]] = rows[found[0]], rows[k]
                swaps += 1
            numbers.append(rows[k][k])
            for i in range(k + 1, n):
                for j in range(k + 1, n):
                    rows[i][j] = (rows[k][k] * rows[i][j] - rows[i][k] * rows[k][j]) / before
                    assert rows[i][j].denominator == 1
                rows[i][k] = Fraction(0)
            before = rows[k][k]
        return [swaps % 2, len(numbers)] + [number.numerator for number in numbers]

    def do_char(self, p):
        refused = self.unfit_square(p)
        if refused:
            return refused
        rows = self.rows(p)
        n = len(rows)
        made = [[Fraction(int(i == j)) for j in range(n)] for i in range(n)]
        numbers = [Fraction(1)]
        for k in range(1, n + 1):
            made = [[sum(rows[i][x] * made[x][j] for x in range(n)) for j in range(n)] for i in range(n)]
            numbers.append(-sum(made[i][i] for i in range(n)) / k)
            made = [[made[i][j] + numbers[k] * int(i == j) for j in range(n)] for i in range(n)]
        return self.tell([n + 1], numbers)

    def do_trace(self, p):
        refused = self.unfit_square(p)
        if refused:
            return refused
        return self.tell([0], [sum((row[i] for i, row in enumerate(self.rows(p))), Fraction(0))])

    def do_same(self, p, q):
        if not {p, q} <= set(range(6)):
            return [-1]
        return [int(self.held[p] == self.held[q])]

    def do_code(self, n, m, *rest):
        if n not in range(1, 5) or m not in range(5):
            return [-1]
        numbers, outs = split_lists(rest)
        lines = []
        while numbers:
            kind = numbers.pop(0)
            length = {0: 1, 6: 1}.get(kind, 2)
            given = numbers[:length]
            numbers = numbers[length:]
            if kind not in range(7) or len(given) < length:
                return [-2]
            if (kind == 1 and given[1] < 1) or (kind != 1 and any(number < 0 for number in given)):
                return [-2]
            lines.append([kind] + given)
        if len(lines) > 40:
            return [-7]
        for place, (kind, *given) in enumerate(lines):
            if (kind == 0 and given[0] >= n + m) or (kind > 1 and any(number >= place for number in given)):
                return [-3]
        if len(outs) != n or any(out not in range(len(lines)) for out in outs):
            return [-2]
        self.code = (n, m, lines, outs)
        return [len(lines)]

    def at(self, kind, unknowns, parameters, weights=None):
        """The refusal, or None; the residual; and the derivatives of the outs by each input."""
        n, m, lines, outs = self.code
        if kind not in (0, 1):
            return [-1], None, None
        ahead, behind = read_fractions(unknowns, n), read_fractions(parameters, m)
        if ahead is None or behind is None:
            return [-2], None, None
        try:
            values = run_code(lines, ahead + behind)
        except Faulty:
            return [-5], None, None
        if weights is not None and read_fractions(weights, n) is None:
            return [-2], None, None
        left = [values[out] - kind * ahead[i] for i, out in enumerate(outs)]
        return None, left, [back_derivatives(lines, values, out, n + m) for out in outs]

    def do_residual(self, kind, *rest):
        refused, left, rows = self.at(kind, *split_lists(rest))
        return refused or self.tell([len(left)], left)

    def moved(self, kind, unknowns, parameters, weights=None):
        """The refusal, or None; and the derivatives of the unknowns by the parameters."""
        refused, left, rows = self.at(kind, unknowns, parameters, weights)
        if refused:
            return refused, None
        if any(left):
            return [-10], None
        n, m = self.code[:2]
        back = adjugate_inverse([[rows[i][j] - kind * int(i == j) for j in range(n)] for i in range(n)])
        if back is None:
            return [-9], None
        return None, [[-sum((back[i][k] * rows[k][n + j] for k in range(n)), Fraction(0)) for j in range(m)]
                      for i in range(n)]

    def do_implicit(self, r, kind, *rest):
        if r not in range(6):
            return [-1]
        refused, made = self.moved(kind, *split_lists(rest))
        return refused or self.keep(r, self.code[0], self.code[1], lambda i, j: made[i][j])

    def do_pull(self, kind, *rest):
        unknowns, parameters, weights = split_lists(rest)
        refused, made = self.moved(kind, unknowns, parameters, weights)
        if refused:
            return refused
        given = read_fractions(weights, self.code[0])
        return self.tell([self.code[1]], [sum((given[i] * made[i][j] for i in range(len(given))), Fraction(0))
                                          for j in range(self.code[1])])


def model_answers(calls):
    model = Model()
    return [model.answer(call) for call in calls]
