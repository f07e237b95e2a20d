"""Long lists of mixed calls, held against a second way of working them out."""

import random
import unittest

from tests.helper import GREATEST, Model, add, all_six, below, beside, flat, get, model_answers, mul, part, power
from tests.helper import reduce, run, scale, set_call, sub, turn, unit


def some_fraction(chance, greatest):
    above = chance.randint(-greatest, greatest) if chance.random() < 0.7 else 0
    return [above, chance.randint(1, greatest)]


def some_set(chance, greatest):
    h, w = chance.choice([(chance.randint(0, 6), chance.randint(0, 6)), (3, 3), (2, 2), (3, 2), (2, 3)])
    numbers = flat([some_fraction(chance, greatest) for k in range(h * w)])
    if numbers and chance.random() < 0.1:
        numbers[1] = 0
    if chance.random() < 0.05:
        numbers.append(1)
    return set_call(some_place(chance), h, w, *numbers)


def some_place(chance):
    return chance.choice((-1, 6)) if chance.random() < 0.01 else chance.randint(0, 5)


def some_call(chance, greatest):
    def place():
        return some_place(chance)

    kind = chance.choice("sssggabmmmmcktunxypppwwwrrr")
    if kind == "s":
        return some_set(chance, greatest)
    if kind == "g":
        return get(place())
    if kind == "c":
        return scale(place(), place(), chance.randint(-greatest, greatest), chance.randint(0, greatest))
    if kind in "tk":
        return turn(place(), place())
    if kind in "un":
        return unit(place(), chance.randint(-1, 7))
    if kind == "p":
        bounds = [chance.randint(0, 2) for k in range(2)] + [chance.randint(0, 3) for k in range(2)]
        return part(place(), place(), *bounds)
    if kind == "w":
        return power(place(), place(), chance.choice((-1, 0, 1, 2, 2, 3, 3, 5, 12, 13)))
    if kind == "r":
        return reduce(place(), place())
    make = {"a": add, "b": sub, "m": mul, "x": beside, "y": below}[kind]
    return make(place(), place(), place())


class AgainstTheModel(unittest.TestCase):
    def check(self, seed, greatest, length):
        chance = random.Random(seed)
        calls = []
        while len(calls) < length:
            calls.append(some_call(chance, greatest))
            if calls[-1][0] not in (0, 1) and chance.random() < 0.5:
                calls.append(get(max(0, min(5, calls[-1][1]))))
        calls = calls[:length] + all_six()
        told = run(*calls)
        self.assertEqual(told, model_answers(calls), f"seed {seed}")
        return told

    def test_small_numbers(self):
        seen = set()
        for seed in range(60):
            seen.update(answer[0] for answer in self.check(seed, 5, 120))
        self.assertTrue({-1, -2, -8, -4, 0, 1, 2} <= seen)

    def test_great_numbers(self):
        seen = set()
        for seed in range(100, 120):
            seen.update(answer[0] for answer in self.check(seed, GREATEST, 120))
        self.assertIn(-4, seen)

    def test_tables_of_every_size_reduced(self):
        chance = random.Random(3)
        for h in range(7):
            for w in range(7):
                for rank in range(3):
                    thin = flat([some_fraction(chance, 4) for k in range(h * (rank + 1))])
                    wide = flat([some_fraction(chance, 4) for k in range((rank + 1) * w)])
                    calls = [set_call(0, h, rank + 1, *thin), set_call(1, rank + 1, w, *wide), mul(2, 0, 1),
                             reduce(3, 2), get(3), set_call(4, h, w, *flat([some_fraction(chance, 9)] * (h * w))),
                             reduce(5, 4), get(5)]
                    self.assertEqual(run(*calls), model_answers(calls))


class TheModelItself(unittest.TestCase):
    def test_it_answers_like_the_words(self):
        model = Model()
        self.assertEqual(model.answer(set_call(0, 1, 2, 2, 4, 3, 1)), [0])
        self.assertEqual(model.answer(reduce(0, 0)), [1, 0])
        self.assertEqual(model.answer(get(0)), [1, 2, 1, 1, 6, 1])


if __name__ == "__main__":
    unittest.main()
