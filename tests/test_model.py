"""Many lines of calls, against a second telling of points 1 to 14 that keeps a whole picture for each deed."""

import os.path
import random
import unittest

from helper import CallsTest, ask

TRIES = 300
MOST_NUMBERS = 17000

NAMES = ("push pull shift clear mark undo shelf marks counts record at since told flip cut check mend load common"
         " compact").split()
LENGTHS = {1: 4, 2: 3, 3: 4, 4: 2, 5: 2}
NO_LOG_NUMBERS = (-10 ** 18, -1, 256, 10 ** 18)


def spread(check, told):
    for byte in told:
        check = (check * 257 + byte + 1) % 65521
    return check


def written_behind(check, told):
    return bytes(told) + spread(check, told).to_bytes(2, "big")


class Pictures:
    """Shelves, labels, log and check as they were after each deed, one picture behind another; undo drops the last.

    The log as it stands now is kept apart. What is recovered are deeds, done on new pictures, whose log is just what
    the bytes begin with."""

    def __init__(self):
        self.past = [(((),) * 8, frozenset(), b"", 0, None)]
        self.log = b""

    def call(self, number, *given):
        if number < 5:
            return self.deed(number + 1, given)
        if number in (17, 18):
            given = [given[1:]]
        return getattr(self, NAMES[number])(*given)

    def known(self):
        return len(self.past) - 1

    def sound(self):
        return self.log == self.past[-1][2]

    def deed(self, kind, given):
        if any(number < 0 for number in given):
            return [-1]
        if not self.sound():
            return [-8]
        shelves, labels, log, check, last = self.past[-1]
        rows = dict(enumerate(shelves))
        try:
            told = getattr(self, NAMES[kind - 1])(rows, *given)
        except LookupError:
            return [-6]
        if kind == 5:
            labels = labels | {given[0]}
        log += written_behind(check, told)
        if len(log) > 2000:
            return [-7]
        self.past.append((tuple(rows[s] for s in range(8)), labels, log, spread(check, told), told))
        self.log = log
        return [self.known()]

    def push(self, rows, s, v):
        if v >= 2 ** 16 or len(rows[s]) == 12:
            raise LookupError
        rows[s] += (v,)
        return [1, s, *v.to_bytes(2, "big")]

    def pull(self, rows, s, i):
        rows[s][i]
        rows[s] = rows[s][:i] + rows[s][i + 1:]
        return [2, s, i]

    def shift(self, rows, s, t, i):
        number = rows[s][i]
        if s == t or len(rows[t]) == 12:
            raise LookupError
        rows[t] += (number,)
        self.pull(rows, s, i)
        return [3, s, t, i]

    def clear(self, rows, s):
        rows[s][0]
        rows[s] = ()
        return [4, s]

    def mark(self, rows, n):
        if n >= 2 ** 8:
            raise LookupError
        return [5, n]

    def undo(self):
        if not self.sound():
            return [-8]
        if self.known() == 0:
            return [-6]
        self.past.pop()
        self.log = self.past[-1][2]
        return [self.known()]

    def shelf(self, s):
        return self.at(self.known(), s)

    def marks(self):
        return [len(self.past[-1][1]), *sorted(self.past[-1][1])]

    def counts(self):
        return [self.known(), len(self.log), self.past[-1][3], int(self.sound())]

    def record(self, i):
        if i < 0 or i >= self.known():
            return [-1]
        return self.past[i + 1][4]

    def at(self, n, s):
        if n not in range(self.known() + 1) or s not in range(8):
            return [-1]
        return [len(self.past[n][0][s]), *self.past[n][0][s]]

    def since(self, n):
        if n not in range(256):
            return [-1]
        places = [place for place, picture in enumerate(self.past) if picture[4] == [5, n]]
        return [self.known() - places[-1]] if places else [-6]

    def told(self):
        return [len(self.log), *self.log]

    def flip(self, p, b):
        if p not in range(len(self.log)) or b not in range(256):
            return [-1]
        was = self.log[p]
        self.log = self.log[:p] + bytes([b]) + self.log[p + 1:]
        return [was]

    def cut(self, n):
        if n not in range(len(self.log) + 1):
            return [-1]
        self.take(recovered(self.log[:n]))
        return self.counts()[:2]

    def check(self):
        found = recovered(self.log)
        return [*found.counts()[:2], len(self.log)]

    def mend(self):
        return self.cut(len(self.log))

    def load(self, numbers):
        if len(numbers) > 2000 or not set(numbers) <= set(range(256)):
            return [-2]
        self.take(recovered(bytes(numbers)))
        return self.counts()[:2]

    def common(self, numbers):
        if len(numbers) > 2000 or not set(numbers) <= set(range(256)):
            return [-2]
        # Right records that are alike in both are the right records of what both begin with.
        both = os.path.commonprefix([self.log, bytes(numbers)])
        count = place = check = 0
        while place < len(both) and both[place] in LENGTHS:
            told = both[place:place + LENGTHS[both[place]]]
            if not both.startswith(written_behind(check, told), place):
                break
            check = spread(check, told)
            place += len(told) + 2
            count += 1
        return [count]

    def compact(self):
        if not self.sound():
            return [-8]
        before = len(self.log)
        shelves, labels = self.past[-1][:2]
        fresh = Pictures()
        for s in range(8):
            for v in shelves[s]:
                fresh.deed(1, (s, v))
        for n in sorted(labels):
            fresh.deed(5, (n,))
        self.take(fresh)
        return [before, len(self.log)]

    def take(self, other):
        self.past = other.past
        self.log = other.log


def recovered(log):
    found = Pictures()
    while len(found.log) < len(log) and log[len(found.log)] in LENGTHS:
        start = len(found.log)
        told = log[start:start + LENGTHS[log[start]]]
        if len(told) < LENGTHS[log[start]]:
            break
        given = (told[1], told[2] * 256 + told[3]) if told[0] == 1 else tuple(told[1:])
        if found.deed(told[0], given)[0] < 0:
            break
        if not log.startswith(found.log):
            found.undo()
            break
    return found


def any_number(chance, usual):
    if chance.random() < 0.03:
        return chance.choice((-10 ** 18, -1, 7, 8, 11, 12, 255, 256, 65535, 65536, 10 ** 18))
    return chance.randrange(usual)


def nearly_full(chance):
    pictures = Pictures()
    size = chance.randrange(1960, 2000)
    while len(pictures.log) < size:
        pictures.deed(5, (chance.randrange(256),))
    return pictures.log


class Line:
    """Calls made up one after another, with an eye on what the pictures hold."""

    def __init__(self, chance, weights):
        self.chance = chance
        self.weights = weights
        self.shelves = chance.choice((2, 3, 8))
        self.labels = chance.choice((4, 20, 256))
        self.pictures = Pictures()
        self.calls = []
        self.answers = []
        self.logs = [nearly_full(chance) if chance.random() < 0.2 else b""]
        self.room = MOST_NUMBERS

    def usual(self):
        size = len(self.pictures.log)
        known = self.pictures.known()
        s = self.shelves
        n = self.labels
        return ((s, 65536), (s, 4), (s, s, 4), (s,), (n,), (), (s,), (), (), (known + 2,), (known + 2, s), (n,), (),
                (size + 1, 256), (size + 1,), (), ())

    def any_record(self):
        kind = self.chance.randrange(1, 6)
        rest = [self.chance.randrange(self.chance.choice((3, 9, 256))) for k in range(LENGTHS[kind] - 1)]
        return [kind, *rest]

    def any_bytes(self):
        """A log that was there once, with right records behind it, or cut off, or with bytes that aren't right."""
        log = self.chance.choice((self.pictures.log, self.chance.choice(self.logs)))
        for k in range(self.chance.randrange(4)):
            check = int.from_bytes(log[-2:], "big")
            log += written_behind(check, self.any_record())
        if self.chance.random() < 0.3:
            log = log[:self.chance.randrange(len(log) + 1)]
        numbers = list(log)
        if numbers and self.chance.random() < 0.4:
            numbers[self.chance.randrange(len(numbers))] = self.chance.randrange(256)
        if numbers and self.chance.random() < 0.1:
            numbers[self.chance.randrange(len(numbers))] = self.chance.choice(NO_LOG_NUMBERS)
        return [len(numbers), *numbers]

    def one_back(self):
        """A flip that brings back the first byte that isn't as the known deeds have it."""
        right = self.pictures.past[-1][2]
        p = len(os.path.commonprefix([right, self.pictures.log]))
        return [13, p, right[p]]

    def any_call(self):
        if not self.pictures.sound() and self.chance.random() < 0.2:
            return self.chance.choice((self.one_back(), [16]))
        number = self.chance.choices(range(20), self.weights)[0]
        if number == 19:
            return [19]
        if number in (17, 18):
            return [number, *self.any_bytes()]
        return [number] + [any_number(self.chance, most) for most in self.usual()[number]]

    def go_on(self):
        call = self.any_call()
        self.room -= len(call)
        if self.room >= 0:
            self.calls.append(call)
            self.answers.append(self.pictures.call(*call))
            if self.chance.random() < 0.1:
                self.logs.append(self.pictures.log)
        return self.room >= 0


class ModelTest(CallsTest):
    def compare(self, seed, weights):
        chance = random.Random(seed)
        line = Line(chance, weights)
        for k in range(chance.randint(1, 400)):
            if not line.go_on():
                break
        self.assertEqual(ask(*line.calls), line.answers, (seed, weights))

    def test_all_calls_alike(self):
        for seed in range(TRIES):
            self.compare(seed, (8, 3, 4, 1, 3, 2, 1, 1, 2, 1, 1, 1, 0.5, 1, 0.5, 1, 0.5, 1, 1, 0.5))

    def test_full_shelves_and_full_logs(self):
        for seed in range(TRIES):
            self.compare(seed, (20, 4, 20, 0.1, 1, 0.2, 0.2, 0.2, 0.2, 0.2, 0.2, 0.2, 0.1, 0, 0, 0.1, 0.1, 0, 0.1, 0))

    def test_without_loss(self):
        for seed in range(TRIES):
            self.compare(seed, (6, 3, 4, 1, 2, 2, 2, 1, 2, 2, 1, 1, 0.5, 0, 0, 1, 0, 0, 0.5, 0))

    def test_bytes_handed_in_and_bytes_spoiled(self):
        for seed in range(TRIES):
            self.compare(seed, (9, 2, 3, 1, 3, 0.5, 1, 0.5, 1, 1, 1, 1, 1, 4, 2, 3, 1, 4, 6, 0.5))


if __name__ == "__main__":
    unittest.main()
