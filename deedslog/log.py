"""The interface: calls on one new book, one behind another in one list, and their answers in one list."""

from deedslog.book import Book
from deedslog.deeds import CLEAR, MARK, PULL, PUSH, SHIFT


def push(book, given):
    return book.do([PUSH] + given)


def pull(book, given):
    return book.do([PULL] + given)


def shift(book, given):
    return book.do([SHIFT] + given)


def clear(book, given):
    return book.do([CLEAR] + given)


def mark(book, given):
    return book.do([MARK] + given)


def undo(book, given):
    return book.undo()


def shelf(book, given):
    return book.shelf(given[0])


def marks(book, given):
    return book.marks()


def counts(book, given):
    return book.counts()


def record(book, given):
    return book.record(given[0])


# Both stand in the order of the calls' numbers: what answers a call, and how many whole numbers it is given.
CALLS = (push, pull, shift, clear, mark, undo, shelf, marks, counts, record)
GIVEN_COUNTS = (2, 2, 3, 1, 1, 0, 1, 0, 0, 1)


def end_of_call(calls, start):
    return start + 1 + GIVEN_COUNTS[calls[start]]


def answers(calls):
    book = Book()
    told = []
    start = 0
    while start < len(calls):
        end = end_of_call(calls, start)
        answer_call = CALLS[calls[start]]
        answer = answer_call(book, calls[start + 1:end])
        told.append(len(answer))
        told.extend(answer)
        start = end
    return told
