"""Many lines of calls, against a second telling of points 1 to 5 that keeps a whole picture for each deed."""

import random
import unittest

from helper import ask

KINDS = 10
TRIES = 300


class Pictures:
    """Shelves, labels and log as texts and tuples, one picture behind another; undo drops the last."""

    def __init__(self):
        self.past = [(((),) * 8, frozenset(), 0, 0, None)]

    def call(self, number, *given):
        if number < 5:
            return self.deed(number + 1, given)
        return [self.undo, self.shelf, self.marks, self.counts, self.record][number - 5](*given)

    def deed(self, kind, given):
        if any(number < 0 for number in given):
            return [-1]
        shelves, labels, size, check, last = self.past[-1]
        rows = dict(enumerate(shelves))
        try:
            told = getattr(self, ("push", "pull", "shift", "clear", "mark")[kind - 1])(rows, *given)
        except LookupError:
            return [-6]
        if kind == 5:
            labels = labels | {given[0]}
        for byte in told:
            check = (check * 257 + byte + 1) % 65521
        size += len(told) + 2
        if size > 2000:
            return [-7]
        self.past.append((tuple(rows[s] for s in range(8)), labels, size, check, told))
        return [len(self.past) - 1]

    def push(self, rows, s, v):
        if v >= 2 ** 16 or len(rows[s]) == 12:
            raise LookupError
        rows[s] += (v,)
        return [1, s, *v.to_bytes(2, "big")]

    def pull(self, rows, s, i):
        rows[s][i]
        rows[s] = rows[s][:i] + rows[s][i + 1:]
        return [2, s, i]

    def shift(self, rows, s, t, i):
        number = rows[s][i]
        if s == t or len(rows[t]) == 12:
            raise LookupError
        rows[t] += (number,)
        self.pull(rows, s, i)
        return [3, s, t, i]

    def clear(self, rows, s):
        rows[s][0]
        rows[s] = ()
        return [4, s]

    def mark(self, rows, n):
        if n >= 2 ** 8:
            raise LookupError
        return [5, n]

    def undo(self):
        if len(self.past) == 1:
            return [-6]
        self.past.pop()
        return [len(self.past) - 1]

    def shelf(self, s):
        if s < 0 or s > 7:
            return [-1]
        return [len(self.past[-1][0][s]), *self.past[-1][0][s]]

    def marks(self):
        return [len(self.past[-1][1]), *sorted(self.past[-1][1])]

    def counts(self):
        return [len(self.past) - 1, self.past[-1][2], self.past[-1][3], 1]

    def record(self, i):
        if i < 0 or i + 1 >= len(self.past):
            return [-1]
        return self.past[i + 1][4]


def any_number(chance, usual):
    if chance.random() < 0.03:
        return chance.choice((-10 ** 18, -1, 7, 8, 11, 12, 255, 256, 65535, 65536, 10 ** 18))
    return chance.randrange(usual)


def any_call(chance, shelves, weights):
    number = chance.choices(range(KINDS), weights)[0]
    usual = ((shelves, 65536), (shelves, 4), (shelves, shelves, 4), (shelves,), (256,), (), (shelves,), (), (), (40,))
    return [number] + [any_number(chance, most) for most in usual[number]]


class ModelTest(unittest.TestCase):
    def compare(self, seed, weights):
        chance = random.Random(seed)
        shelves = chance.choice((2, 3, 8))
        calls = [any_call(chance, shelves, weights) for k in range(chance.randint(1, 400))]
        pictures = Pictures()
        self.assertEqual(ask(*calls), [pictures.call(*call) for call in calls], (seed, weights))

    def test_all_calls_alike(self):
        for seed in range(TRIES):
            self.compare(seed, (6, 3, 4, 1, 2, 2, 2, 1, 2, 2))

    def test_full_shelves_and_full_logs(self):
        for seed in range(TRIES):
            self.compare(seed, (20, 4, 20, 0.1, 1, 0.2, 0.2, 0.2, 0.2, 0.2))


if __name__ == "__main__":
    unittest.main()
