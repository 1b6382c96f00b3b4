"""The interface: calls on one new book, one behind another in one list, and their answers in one list."""

from deedslog.book import Book
from deedslog.deeds import CLEAR, MARK, PULL, PUSH, SHIFT


def push(book, given):
    return book.do([PUSH] + given)


def pull(book, given):
    return book.do([PULL] + given)


def shift(book, given):
    return book.do([SHIFT] + given)


def clear(book, given):
    return book.do([CLEAR] + given)


def mark(book, given):
    return book.do([MARK] + given)


def undo(book, given):
    return book.undo()


def shelf(book, given):
    return book.shelf(given[0])


def marks(book, given):
    return book.marks()


def counts(book, given):
    return book.counts()


def record(book, given):
    return book.record(given[0])


def at(book, given):
    return book.at(given[0], given[1])


def since(book, given):
    return book.since(given[0])


def bytes_told(book, given):
    return book.bytes_told()


def flip(book, given):
    return book.flip(given[0], given[1])


def cut(book, given):
    return book.cut(given[0])


def check(book, given):
    return book.check()


def mend(book, given):
    return book.mend()


# Ahead of a row's numbers stands how many they are, here and in the next one.
def load(book, given):
    return book.load(given[1:])


def common(book, given):
    return book.common(given[1:])


def compact(book, given):
    return book.compact()


# Both stand in the order of the calls' numbers: what answers a call, and how many whole numbers it is given, with
# the number that's ahead of a row, but without the row.
CALLS = (push, pull, shift, clear, mark, undo, shelf, marks, counts, record,
         at, since, bytes_told, flip, cut, check, mend, load, common, compact)
GIVEN_COUNTS = (2, 2, 3, 1, 1, 0, 1, 0, 0, 1,
                2, 1, 0, 2, 1, 0, 0, 1, 1, 0)
CALLS_WITH_A_ROW = (17, 18)


def end_of_call(calls, start):
    end = start + 1 + GIVEN_COUNTS[calls[start]]
    if calls[start] in CALLS_WITH_A_ROW:
        end += calls[end - 1]
    return end


def answers(calls):
    book = Book()
    told = []
    start = 0
    while start < len(calls):
        end = end_of_call(calls, start)
        answer_call = CALLS[calls[start]]
        answer = answer_call(book, calls[start + 1:end])
        told.append(len(answer))
        told.extend(answer)
        start = end
    return told
