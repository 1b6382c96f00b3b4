"""Refusals where the log isn't sound. The log's bytes are altered on the object itself."""

import unittest

from deedslog.book import Book

PUSH, PULL, SHIFT, CLEAR, MARK = 1, 2, 3, 4, 5


def state(book):
    shelves = [list(numbers) for numbers in book.house.shelves]
    return list(book.deeds), shelves, sorted(book.house.labels), list(book.log), book.counts()


class NotSoundTest(unittest.TestCase):
    def setUp(self):
        self.book = Book()
        self.book.do([PUSH, 0, 5])
        self.book.do([MARK, 7])

    def refused(self, number, *deeds):
        for deed in deeds:
            before = state(self.book)
            self.assertEqual(self.book.do(deed), [number], deed)
            self.assertEqual(state(self.book), before, deed)

    def test_counts_tells_it(self):
        self.assertEqual(self.book.counts(), [2, 10, 26621, 1])
        self.book.log[9] = 0
        # The last check is that of the known deed's record, whatever the log's bytes are.
        self.assertEqual(self.book.counts(), [2, 10, 26621, 0])
        self.book.log[9] = 253
        self.assertEqual(self.book.counts(), [2, 10, 26621, 1])

    def test_every_byte_counts(self):
        for place in range(10):
            byte = self.book.log[place]
            self.book.log[place] = (byte + 1) % 256
            self.assertEqual(self.book.counts()[3], 0)
            self.book.log[place] = byte
            self.assertEqual(self.book.counts()[3], 1)

    def test_too_short_or_too_long(self):
        self.book.log.append(0)
        self.assertEqual(self.book.counts(), [2, 11, 26621, 0])
        self.book.log = self.book.log[:6]
        self.assertEqual(self.book.counts(), [2, 6, 26621, 0])

    def test_deeds_are_refused(self):
        self.book.log[0] = 2
        self.refused(-8, [PUSH, 0, 1], [PULL, 0, 0], [SHIFT, 0, 1, 0], [CLEAR, 0], [MARK, 7])

    def test_ahead_of_what_cannot_be_done(self):
        self.book.log[0] = 2
        self.refused(-8, [PUSH, 8, 1], [PUSH, 0, 65536], [PULL, 0, 1], [SHIFT, 0, 0, 0], [CLEAR, 1], [MARK, 256])

    def test_behind_numbers_below_0(self):
        self.book.log[0] = 2
        self.refused(-1, [PUSH, -1, 1], [PUSH, 8, -1], [PULL, 0, -1], [SHIFT, 0, 0, -1], [SHIFT, 0, -1, 0],
                     [CLEAR, -1], [MARK, -1])

    def test_ahead_of_a_full_log(self):
        while self.book.do([MARK, 1])[0] > 0:
            pass
        self.refused(-7, [MARK, 1])
        self.refused(-6, [MARK, 256])
        self.book.log[0] = 2
        self.refused(-8, [MARK, 1], [MARK, 256])
        self.refused(-1, [MARK, -1])

    def test_undo_is_refused(self):
        self.book.log[0] = 2
        before = state(self.book)
        self.assertEqual(self.book.undo(), [-8])
        self.assertEqual(state(self.book), before)
        self.book.log[0] = 1
        self.assertEqual(self.book.undo(), [1])

    def test_undo_tells_it_ahead_of_no_deed(self):
        book = Book()
        book.log.append(1)
        self.assertEqual(book.undo(), [-8])
        self.assertEqual(book.counts(), [0, 1, 0, 0])

    def test_looking_goes_on(self):
        self.book.log[0] = 2
        self.assertEqual(self.book.shelf(0), [1, 5])
        self.assertEqual(self.book.marks(), [1, 7])
        self.assertEqual(self.book.record(0), [1, 0, 0, 5])
        self.assertEqual(self.book.record(2), [-1])
        self.assertEqual(self.book.shelf(8), [-1])


class AnswersAreCopiesTest(unittest.TestCase):
    def test_changing_an_answer_changes_nothing(self):
        book = Book()
        deed = [MARK, 7]
        book.do(deed)
        deed[1] = 8
        book.record(0)[1] = 9
        book.marks()[1] = 9
        book.do([PUSH, 0, 5])
        book.shelf(0)[1] = 9
        self.assertEqual(book.record(0), [MARK, 7])
        self.assertEqual(book.marks(), [1, 7])
        self.assertEqual(book.shelf(0), [1, 5])


if __name__ == "__main__":
    unittest.main()
