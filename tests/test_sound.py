"""Points 1, 2, 4 and 14 where the log isn't sound: -8, its place among the refusals, and the 0 of counts."""

import unittest

from deedslog.book import Book
from helper import (CHECK, COMPACT, COUNTS, MARKS, MEND, THREE, THREE_DEEDS, UNDO, CallsTest, RefusalTest, ask, at,
                    clear, cut, flip, full_to, last, load, mark, pull, push, record, shelf, shift, since)

SPOILED = [*THREE_DEEDS, flip(0, 2)]


class NotSoundTest(RefusalTest):
    def all_refused(self, number, before, *calls):
        for call in calls:
            self.refused(number, before, call)

    def test_counts_tells_it(self):
        # The last check is that of the known deed's record, whatever the log's bytes are.
        self.assertEqual(ask(*THREE_DEEDS, flip(15, 0), COUNTS, flip(15, 124), COUNTS)[3:],
                         [[124], [3, 16, 22652, 0], [0], [3, 16, 22652, 1]])

    def test_every_byte_counts(self):
        for p, byte in enumerate(THREE):
            for b in ((byte + 1) % 256, (byte - 1) % 256, byte ^ 128):
                self.assertEqual(last(*THREE_DEEDS, flip(p, b), COUNTS), [3, 16, 22652, 0])

    def test_records_that_are_right_but_not_those_of_the_known_deeds(self):
        calls = [push(0, 526), flip(1, 1), flip(2, 0), flip(3, 0)]
        self.assertEqual(ask(*calls, CHECK, COUNTS)[4:], [[1, 6, 6], [1, 6, 10622, 0]])
        self.all_refused(-8, calls, push(0, 1), UNDO, COMPACT)

    def test_deeds_are_refused(self):
        self.all_refused(-8, SPOILED, push(0, 1), pull(0, 0), shift(0, 1, 0), clear(0), mark(7))

    def test_ahead_of_what_cannot_be_done(self):
        self.all_refused(-8, SPOILED, push(8, 1), push(0, 65536), pull(0, 1), shift(0, 0, 0), clear(1), mark(256))

    def test_behind_numbers_below_0(self):
        self.all_refused(-1, SPOILED, push(-1, 1), push(8, -1), pull(0, -1), shift(0, 0, -1), shift(0, -1, 0),
                         clear(-1), mark(-1))

    def test_ahead_of_a_full_log(self):
        full = full_to(2000)
        self.refused(-7, full, mark(1))
        self.refused(-6, full, mark(256))
        self.all_refused(-8, [*full, flip(1999, 0)], mark(1), mark(256))
        self.refused(-1, [*full, flip(1999, 0)], mark(-1))

    def test_undo_and_compact_are_refused(self):
        for p in range(16):
            self.all_refused(-8, [*THREE_DEEDS, flip(p, THREE[p] ^ 64)], UNDO, COMPACT)
        self.assertEqual(ask(*SPOILED, UNDO, flip(0, 1), UNDO)[4:], [[-8], [2], [2]])

    def test_looking_goes_on(self):
        looks = [shelf(0), shelf(8), MARKS, record(0), record(3), at(1, 0), at(4, 0), since(7), since(8)]
        self.assertEqual(ask(*SPOILED, *looks)[4:], [[1, 5], [-1], [1, 7], [1, 0, 0, 5], [-1], [1, 5], [-1], [1], [-6]])

    def test_sound_again_after_cut_mend_and_load(self):
        for call in (cut(0), cut(16), MEND, load(), load(*THREE)):
            self.assertEqual(last(*SPOILED, call, COUNTS)[3], 1)
            self.assertGreater(last(*SPOILED, call, mark(1))[0], 0)

    def test_not_sound_after_what_changes_nothing(self):
        for call in (cut(17), load(256), CHECK, COMPACT, UNDO, mark(1), flip(0, 256)):
            self.assertEqual(last(*SPOILED, call, COUNTS), [3, 16, 22652, 0])


class OnTheObjectTest(CallsTest):
    """No line of calls leads here, but the order of refusals and the word sound hold here, too."""

    def test_undo_tells_it_ahead_of_no_deed(self):
        book = Book()
        book.log.append(1)
        self.assertEqual(book.undo(), [-8])
        self.assertEqual(book.counts(), [0, 1, 0, 0])

    def test_a_log_that_is_too_long_or_too_short(self):
        book = Book()
        book.do([5, 0])
        book.log = [5, 0, 6, 7, 0]
        self.assertEqual(book.counts(), [1, 5, 1543, 0])
        book.log = [5, 0, 6]
        self.assertEqual(book.counts(), [1, 3, 1543, 0])

    def test_changing_an_answer_or_a_deed_changes_nothing(self):
        book = Book()
        deed = [5, 7]
        book.do(deed)
        book.do([1, 0, 5])
        deed[1] = 8
        told = (book.record(0), book.marks(), book.shelf(0), book.at(2, 0), book.bytes_told())
        for answer in told:
            answer[1] = 9
        self.assertEqual((book.record(0), book.marks(), book.shelf(0), book.at(2, 0), book.bytes_told()[1]),
                         ([5, 7], [1, 7], [1, 5], [1, 5], 5))
        self.assertEqual(book.counts()[3], 1)

    def test_what_is_loaded_is_not_kept_or_changed(self):
        book = Book()
        bytes_of = list(THREE)
        book.load(bytes_of)
        book.flip(0, 9)
        self.assertEqual(bytes_of, THREE)
        book.mend()
        book.load(bytes_of)
        bytes_of[0] = 9
        self.assertEqual(book.counts(), [3, 16, 22652, 1])
        self.assertEqual(book.bytes_told(), [16, *THREE])


if __name__ == "__main__":
    unittest.main()
