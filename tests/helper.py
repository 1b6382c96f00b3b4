"""Calls by their names, and answers call by call, for all tests."""

import unittest

from deedslog.log import answers

BIG = 10 ** 18
MOST_CALLS = 400


def push(s, v):
    return [0, s, v]


def pull(s, i):
    return [1, s, i]


def shift(s, t, i):
    return [2, s, t, i]


def clear(s):
    return [3, s]


def mark(n):
    return [4, n]


def shelf(s):
    return [6, s]


def record(i):
    return [9, i]


def at(n, s):
    return [10, n, s]


def since(n):
    return [11, n]


def flip(p, b):
    return [13, p, b]


def cut(n):
    return [14, n]


def load(*bytes_of):
    return [17, len(bytes_of), *bytes_of]


def common(*bytes_of):
    return [18, len(bytes_of), *bytes_of]


UNDO = [5]
MARKS = [7]
COUNTS = [8]
BYTES = [12]
CHECK = [15]
MEND = [16]
COMPACT = [19]

# All that the calls tell of shelves, labels, deeds and log, but for the records.
LOOK = [shelf(s) for s in range(8)] + [MARKS, COUNTS, BYTES]

# Three records, worked out by hand.
# push 0 5 has the bytes 1, 0, 0, 5:
#   257 * 0 + 1 + 1 = 2
#   257 * 2 + 0 + 1 = 515
#   257 * 515 + 0 + 1 = 132356 = 2 * 65521 + 1314
#   257 * 1314 + 5 + 1 = 337704 = 5 * 65521 + 10099, and 10099 = 39 * 256 + 115
# mark 7 has the bytes 5, 7:
#   257 * 10099 + 5 + 1 = 2595449 = 39 * 65521 + 40130
#   257 * 40130 + 7 + 1 = 10313418 = 157 * 65521 + 26621, and 26621 = 103 * 256 + 253
# push 3 258 has the bytes 1, 3, 1, 2:
#   257 * 26621 + 1 + 1 = 6841599 = 104 * 65521 + 27415
#   257 * 27415 + 3 + 1 = 7045659 = 107 * 65521 + 34912
#   257 * 34912 + 1 + 1 = 8972386 = 136 * 65521 + 61530
#   257 * 61530 + 2 + 1 = 15813213 = 241 * 65521 + 22652, and 22652 = 88 * 256 + 124
THREE = [1, 0, 0, 5, 39, 115, 5, 7, 103, 253, 1, 3, 1, 2, 88, 124]
THREE_DEEDS = [push(0, 5), mark(7), push(3, 258)]


# Two records with one check, worked out by hand.
# push 0 526 has the bytes 1, 0, 2, 14:
#   2; 257 * 2 + 1 = 515; 257 * 515 + 3 = 132358 = 2 * 65521 + 1316; 257 * 1316 + 15 = 338227 = 5 * 65521 + 10622
# push 1 0 has the bytes 1, 1, 0, 0:
#   2; 257 * 2 + 2 = 516; 257 * 516 + 1 = 132613 = 2 * 65521 + 1571; 257 * 1571 + 1 = 403748 = 6 * 65521 + 10622
# 10622 = 41 * 256 + 126
ONE_CHECK = [1, 0, 2, 14, 41, 126]
SAME_CHECK = [1, 1, 0, 0, 41, 126]


def written(*deeds):
    """The records of deeds that are handed in as their bytes, told apart from the program's own writing."""
    told = []
    check = 0
    for deed in deeds:
        for byte in deed:
            check = (check * 257 + byte + 1) % 65521
        told += [*deed, *divmod(check, 256)]
    return told


# A log of 2000 bytes.
MARKS_500 = written(*[[5, k % 256] for k in range(500)])

# Deeds of each kind, and where their records end in the log, from none of them to all.
EACH_KIND = [push(0, 1), push(0, 2), pull(0, 0), shift(0, 1, 0), clear(1), mark(9)]
EACH_ENDS = [0, 6, 12, 17, 23, 27, 31]


def filled(s, count):
    """Pushes of 100, 101, .. on the shelf s."""
    return [push(s, 100 + k) for k in range(count)]


def full_to(count):
    """Calls after which the log has so many bytes, an even number from 1990 on: pushes and shifts of 6, marks of 4."""
    marks = 1
    while (count - 4 * marks) % 6 != 0:
        marks += 1
    sixes = (count - 4 * marks) // 6
    return [push(0, 1)] + [shift(k % 2, 1 - k % 2, 0) for k in range(sixes - 1)] + [mark(1)] * marks


def split(numbers):
    """The one list that's given back, as one list a call."""
    parts = []
    place = 0
    while place < len(numbers):
        count = numbers[place]
        part = numbers[place + 1:place + 1 + count]
        if count < 1 or len(part) != count:
            raise AssertionError(f"no answer of {count} numbers at {place}")
        parts.append(part)
        place += 1 + count
    return parts


def ask(*calls):
    """What each of these calls answers, all on one new object."""
    if not 1 <= len(calls) <= MOST_CALLS:
        raise AssertionError(f"{len(calls)} calls are never handed in")
    parts = split(answers([number for call in calls for number in call]))
    if len(parts) != len(calls):
        raise AssertionError(f"{len(calls)} calls, but {len(parts)} answers")
    return parts


def last(*calls):
    return ask(*calls)[-1]


def seen(*calls):
    """What can be seen after these calls."""
    return ask(*calls, *LOOK)[len(calls):]


def records_told(count, *calls):
    """The first records after these calls, one more than there should be."""
    looks = [record(i) for i in range(count + 1)]
    room = MOST_CALLS - len(calls)
    told = []
    for start in range(0, len(looks), room):
        told += ask(*calls, *looks[start:start + room])[len(calls):]
    return told


def everything(*calls):
    """What can be seen after these calls, and all records."""
    return seen(*calls), records_told(last(*calls, COUNTS)[0], *calls)


class CallsTest(unittest.TestCase):
    """unittest's own telling of how two long lists differ may take hours: here the first difference is told alone."""

    def __init__(self, *args):
        super().__init__(*args)
        self.addTypeEqualityFunc(list, self.same)
        self.addTypeEqualityFunc(tuple, self.same)

    def same(self, found, wanted, msg=None):
        if found != wanted:
            pairs = zip(found, wanted)
            place = next((k for k, (one, other) in enumerate(pairs) if one != other), min(len(found), len(wanted)))
            told = [str(numbers[place:place + 8])[:400] for numbers in (found, wanted)]
            self.fail(f"from {place} on: {told[0]} of {len(found)}, not {told[1]} of {len(wanted)}; {str(msg)[:400]}")


class RefusalTest(CallsTest):
    def refused(self, number, before, call):
        self.assertEqual(last(*before, call), [number], call)
        self.unchanged(before, call)

    def unchanged(self, before, *calls):
        self.assertEqual(everything(*before, *calls), everything(*before), calls)
