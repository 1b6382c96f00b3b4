"""Calls by their names, and answers call by call, for all tests."""

from deedslog.log import answers

BIG = 10 ** 18
MOST_CALLS = 400


def push(s, v):
    return [0, s, v]


def pull(s, i):
    return [1, s, i]


def shift(s, t, i):
    return [2, s, t, i]


def clear(s):
    return [3, s]


def mark(n):
    return [4, n]


def shelf(s):
    return [6, s]


def record(i):
    return [9, i]


UNDO = [5]
MARKS = [7]
COUNTS = [8]

# All that the calls tell of shelves, labels, deeds and log, but for the records.
LOOK = [shelf(s) for s in range(8)] + [MARKS, COUNTS]


def filled(s, count):
    """Pushes of 100, 101, .. on the shelf s."""
    return [push(s, 100 + k) for k in range(count)]


def split(numbers):
    """The one list that's given back, as one list a call."""
    parts = []
    place = 0
    while place < len(numbers):
        count = numbers[place]
        part = numbers[place + 1:place + 1 + count]
        if count < 1 or len(part) != count:
            raise AssertionError(f"no answer of {count} numbers at {place}")
        parts.append(part)
        place += 1 + count
    return parts


def ask(*calls):
    """What each of these calls answers, all on one new object."""
    if not 1 <= len(calls) <= MOST_CALLS:
        raise AssertionError(f"{len(calls)} calls are never handed in")
    parts = split(answers([number for call in calls for number in call]))
    if len(parts) != len(calls):
        raise AssertionError(f"{len(calls)} calls, but {len(parts)} answers")
    return parts


def last(*calls):
    return ask(*calls)[-1]


def seen(*calls):
    """What can be seen after these calls."""
    return ask(*calls, *LOOK)[len(calls):]


def records_told(count, *calls):
    """The first records after these calls, one more than there should be."""
    looks = [record(i) for i in range(count + 1)]
    room = MOST_CALLS - len(calls)
    told = []
    for start in range(0, len(looks), room):
        told += ask(*calls, *looks[start:start + room])[len(calls):]
    return told
