"""Long lists of mixed calls, held against a second way of working them out."""

import random
import unittest
from fractions import Fraction

from tests.helper import GREATEST, Faulty, Model, add, all_six, below, beside, char, code, det, flat, get, implicit
from tests.helper import inverse, kernel, leading, model_answers, mul, part, power, pull, raw_code, reduce, residual, run
from tests.helper import run_code, same, scale, set_call, solve, sub, trace, turn, unit


def some_fraction(chance, greatest):
    above = chance.randint(-greatest, greatest) if chance.random() < 0.7 else 0
    return [above, chance.randint(1, greatest)]


def some_set(chance, greatest):
    h, w = chance.choice([(chance.randint(0, 6), chance.randint(0, 6)), (3, 3), (2, 2), (3, 2), (2, 3)])
    numbers = flat([some_fraction(chance, greatest) for k in range(h * w)])
    if chance.random() < 0.2:
        numbers[1::2] = [1] * (h * w)
    if numbers and chance.random() < 0.1:
        numbers[1] = 0
    if chance.random() < 0.05:
        numbers.append(1)
    return set_call(some_place(chance), h, w, *numbers)


def some_place(chance):
    return chance.choice((-1, 6)) if chance.random() < 0.01 else chance.randint(0, 5)


def some_line(chance, place, inputs, greatest):
    kind = chance.choice((0, 1, 2, 3, 4, 4, 5, 6)) if place else chance.choice((0, 1))
    if kind == 0:
        return [0, chance.randrange(inputs)]
    if kind == 1:
        return [1] + some_fraction(chance, greatest)
    return [kind] + [chance.randrange(max(0, place - 6), place) for k in range(1 if kind == 6 else 2)]


def some_lines(chance, n, m, greatest):
    lines = [[0, k] for k in range(n + m)]
    length = chance.randint(0, 20)
    while len(lines) < n + m + length:
        lines.append(some_line(chance, len(lines), n + m, greatest))
    return lines


def some_values(chance, count, greatest):
    return [Fraction(*some_fraction(chance, greatest)) for k in range(count)]


def holding_lines(lines, outs, kind, unknowns, parameters):
    """The lines with so much taken from the outs that the equations hold there; None if they can't be run."""
    try:
        values = run_code(lines, unknowns + parameters)
    except Faulty:
        return None
    lines, moved = list(lines), []
    for i, out in enumerate(outs):
        taken = values[out] - kind * unknowns[i]
        if max(abs(taken.numerator), taken.denominator) > GREATEST:
            return None
        lines += [[1, taken.numerator, taken.denominator], [3, out, len(lines)]]
        moved.append(len(lines) - 1)
    return lines, moved


def some_equations(chance, greatest):
    """A code, and calls on it at points at which it may hold."""
    n, m, kind = chance.randint(1, 4), chance.randint(0, 4), chance.randint(0, 1)
    lines = some_lines(chance, n, m, greatest)
    outs = [chance.randrange(max(0, len(lines) - 6), len(lines)) for k in range(n)]
    unknowns, parameters = some_values(chance, n, greatest), some_values(chance, m, greatest)
    held = holding_lines(lines, outs, kind, unknowns, parameters) if chance.random() < 0.8 else None
    if held:
        lines, outs = held
    calls = [code(n, m, lines, outs), residual(kind, unknowns, parameters)]
    weights = some_values(chance, n, greatest)
    r = some_place(chance)
    calls += [implicit(r, kind, unknowns, parameters), pull(kind, unknowns, parameters, weights)]
    if r in range(6):
        calls.append(get(r))
    if chance.random() < 0.3:
        kind, weights = chance.choice((-1, 1 - kind, 2)), weights[:chance.randint(0, n)]
        calls += [pull(kind, unknowns, parameters, weights), residual(kind, unknowns, parameters)]
    return calls


def some_raw_code(chance):
    """A code that is refused more often than not."""
    numbers = [chance.choice((0, 0, 1, 1, 2, 3, 4, 5, 6, 6, 7, -1)) for k in range(chance.randint(0, 9))]
    outs = [chance.randint(-1, 3) for k in range(chance.randint(0, 3))]
    return raw_code(chance.randint(0, 5), chance.randint(-1, 5), numbers, outs)


def some_call(chance, greatest):
    def place():
        return some_place(chance)

    kind = chance.choice("sssssggabmmmmcktunxypppwwwrrrddiiioooollllhhhjjeefff")
    if kind == "s":
        return some_set(chance, greatest)
    if kind == "c":
        return scale(place(), place(), chance.randint(-greatest, greatest), chance.randint(0, greatest))
    if kind in "un":
        return unit(place(), chance.randint(-1, 7))
    if kind == "p":
        bounds = [chance.randint(0, 2) for k in range(2)] + [chance.randint(0, 3) for k in range(2)]
        return part(place(), place(), *bounds)
    if kind == "w":
        return power(place(), place(), chance.choice((-1, 0, 1, 2, 2, 3, 3, 5, 12, 13)))
    if kind in "gdhjl":
        return {"g": get, "d": det, "h": char, "j": trace, "l": leading}[kind](place())
    if kind in "tkrife":
        return {"t": turn, "k": turn, "r": reduce, "i": inverse, "f": kernel, "e": same}[kind](place(), place())
    return {"a": add, "b": sub, "m": mul, "x": beside, "y": below, "o": solve}[kind](place(), place(), place())


class AgainstTheModel(unittest.TestCase):
    def check(self, seed, greatest, length):
        chance = random.Random(seed)
        calls = [some_set(chance, greatest) for k in range(8)]
        while len(calls) < length:
            if chance.random() < 0.08:
                calls += some_equations(chance, greatest)
            elif chance.random() < 0.03:
                calls.append(some_raw_code(chance))
            else:
                calls.append(some_call(chance, greatest))
            if calls[-1][0] in (2, 3, 4, 5, 6, 7, 8, 9, 10, 11, 12, 14, 15, 16) and chance.random() < 0.5:
                calls.append(get(max(0, min(5, calls[-1][1]))))
        calls = calls[:length] + all_six()
        answered = run(*calls)
        for call, got, expected in zip(calls, answered, model_answers(calls)):
            self.assertEqual(got, expected, f"seed {seed}, call {call}")
        return [(call[0], answer[0]) for call, answer in zip(calls, answered)]

    def test_small_numbers(self):
        seen = set()
        for seed in range(80):
            seen.update(self.check(seed, 5, 200))
        self.assertTrue({-1, -2, -3, -4, -5, -8, -9, -10} <= {first for number, first in seen})
        self.assertTrue({(number, 0) for number in range(21) if number != 18} <= seen)
        self.assertTrue({(14, -9), (15, 0), (15, 1), (15, 2), (17, -9), (17, 1), (20, 1)} <= seen)
        self.assertTrue({(21, -2), (21, -3), (22, -5), (23, -5), (23, -10), (23, -9), (23, 0), (24, -2)} <= seen)
        self.assertTrue({(24, count) for count in (-10, -9, -5, -1, 0, 1, 2, 3, 4)} <= seen)

    def test_great_numbers(self):
        seen = set()
        for seed in range(100, 130):
            seen.update(self.check(seed, GREATEST, 120))
        self.assertTrue({(11, -4), (22, -5), (23, -10)} <= seen)

    def test_tables_of_every_size_and_rank(self):
        chance = random.Random(3)
        for h in range(7):
            for w in range(7):
                for rank in range(3):
                    thin = flat([some_fraction(chance, 4) for k in range(h * (rank + 1))])
                    wide = flat([some_fraction(chance, 4) for k in range((rank + 1) * w)])
                    calls = [set_call(0, h, rank + 1, *thin), set_call(1, rank + 1, w, *wide), mul(2, 0, 1),
                             reduce(3, 2), get(3), set_call(4, h, w, *flat([some_fraction(chance, 9)] * (h * w))),
                             reduce(5, 4), get(5), kernel(5, 2), get(5), solve(5, 2, 0), get(5), solve(5, 2, 4), get(5),
                             det(2), det(4), inverse(5, 2), leading(2), char(2), trace(2), same(2, 3)]
                    self.assertEqual(run(*calls), model_answers(calls))

    def test_square_tables(self):
        chance = random.Random(4)
        for n in range(7):
            for k in range(6):
                greatest = chance.choice((1, 2, 9, 1000, GREATEST))
                numbers = flat([[chance.randint(-greatest, greatest), chance.choice((1, 1, k + 1))] for place in range(n * n)])
                whole = [number if place % 2 == 0 else 1 for place, number in enumerate(numbers)]
                calls = [set_call(0, n, n, *numbers), set_call(1, n, n, *whole), det(0), det(1), leading(0), leading(1),
                         char(0), char(1), trace(0), inverse(2, 0), get(2), inverse(3, 1), get(3), solve(4, 0, 1), get(4),
                         kernel(5, 0), get(5)]
                self.assertEqual(run(*calls), model_answers(calls))


class TheModelItself(unittest.TestCase):
    def test_it_answers_like_the_words(self):
        model = Model()
        self.assertEqual(model.answer(set_call(0, 1, 2, 2, 4, 3, 1)), [0])
        self.assertEqual(model.answer(reduce(0, 0)), [1, 0])
        self.assertEqual(model.answer(get(0)), [1, 2, 1, 1, 6, 1])
        self.assertEqual(model.answer(kernel(0, 0)), [1])
        self.assertEqual(model.answer(get(0)), [2, 1, -6, 1, 1, 1])
        self.assertEqual(model.answer(set_call(1, 2, 2, 0, 1, 2, 1, 3, 1, 4, 1)), [0])
        self.assertEqual(model.answer(leading(1)), [1, 2, 3, 6])
        self.assertEqual(model.answer(char(1)), [3, 1, 1, -4, 1, -6, 1])
        self.assertEqual(model.answer(solve(2, 1, 0)), [0])
        self.assertEqual(model.answer(get(2)), [2, 1, 13, 3, -3, 1])
        self.assertEqual(model.answer(code(1, 1, [[0, 0], [0, 1], [4, 0, 0], [3, 2, 1]], [3])), [4])
        self.assertEqual(model.answer(pull(0, [3], [9], [2])), [1, 1, 3])


if __name__ == "__main__":
    unittest.main()
