"""Points 3 to 5: shelf, marks, counts and record; and the check of records."""

import unittest

from helper import BIG, COUNTS, MARKS, UNDO, CallsTest, ask, clear, last, mark, pull, push, record, seen, shelf, shift


class ShelfTest(CallsTest):
    def test_all_are_empty_in_the_beginning(self):
        self.assertEqual(seen(), [[0]] * 9 + [[0, 0, 0, 1], [0]])

    def test_numbers_in_their_order(self):
        self.assertEqual(last(push(7, 3), push(7, 1), push(7, 2), push(7, 1), shelf(7)), [4, 3, 1, 2, 1])

    def test_no_such_shelf(self):
        for s in (-1, -8, 8, 9, -BIG, BIG):
            self.assertEqual(last(push(0, 1), push(7, 1), shelf(s)), [-1])

    def test_edges(self):
        self.assertEqual(ask(push(0, 5), push(7, 6), shelf(0), shelf(7))[2:], [[1, 5], [1, 6]])


class MarksTest(CallsTest):
    def test_in_increasing_order(self):
        self.assertEqual(last(mark(200), mark(3), mark(255), mark(0), mark(20), MARKS), [5, 0, 3, 20, 200, 255])

    def test_each_once(self):
        self.assertEqual(last(mark(7), mark(3), mark(7), mark(7), MARKS), [2, 3, 7])

    def test_all_labels(self):
        self.assertEqual(last(*[mark(n) for n in reversed(range(256))], MARKS), [256, *range(256)])

    def test_shelves_are_no_labels(self):
        self.assertEqual(last(push(0, 9), MARKS), [0])


class CountsTest(CallsTest):
    def test_no_deed(self):
        self.assertEqual(last(COUNTS), [0, 0, 0, 1])

    def test_bytes_of_each_kind(self):
        calls = [push(0, 1), push(0, 2), pull(0, 0), shift(0, 1, 0), clear(1), mark(9)]
        counted = [last(*calls[:k], COUNTS)[:2] for k in range(len(calls) + 1)]
        self.assertEqual(counted, [[0, 0], [1, 6], [2, 12], [3, 17], [4, 23], [5, 27], [6, 31]])

    def test_two_records_worked_out_by_hand(self):
        # push 0 5 has the bytes 1, 0, 0, 5:
        #   257 * 0 + 1 + 1 = 2
        #   257 * 2 + 0 + 1 = 515
        #   257 * 515 + 0 + 1 = 132356 = 2 * 65521 + 1314
        #   257 * 1314 + 5 + 1 = 337704 = 5 * 65521 + 10099
        self.assertEqual(last(push(0, 5), COUNTS), [1, 6, 10099, 1])
        # mark 7 behind it has the bytes 5, 7:
        #   257 * 10099 + 5 + 1 = 2595449 = 39 * 65521 + 40130
        #   257 * 40130 + 7 + 1 = 10313418 = 157 * 65521 + 26621
        self.assertEqual(last(push(0, 5), mark(7), COUNTS), [2, 10, 26621, 1])

    def test_each_kind_as_worked_out_by_hand(self):
        # mark 0, the bytes 5, 0: 257 * 0 + 5 + 1 = 6; 257 * 6 + 0 + 1 = 1543
        self.assertEqual(last(mark(0), COUNTS), [1, 4, 1543, 1])
        # mark 255, the bytes 5, 255: 6; 257 * 6 + 255 + 1 = 1798
        self.assertEqual(last(mark(255), COUNTS), [1, 4, 1798, 1])
        # clear 0 behind push 0 5, the bytes 4, 0: 257 * 10099 + 4 + 1 = 2595448 = 39 * 65521 + 40129;
        #   257 * 40129 + 0 + 1 = 10313154 = 157 * 65521 + 26357
        self.assertEqual(last(push(0, 5), clear(0), COUNTS), [2, 10, 26357, 1])
        # pull 0 0 behind push 0 5, the bytes 2, 0, 0: 257 * 10099 + 2 + 1 = 2595446 = 39 * 65521 + 40127;
        #   257 * 40127 + 0 + 1 = 10312640 = 157 * 65521 + 25843; 257 * 25843 + 0 + 1 = 6641652 = 101 * 65521 + 24031
        self.assertEqual(last(push(0, 5), pull(0, 0), COUNTS), [2, 11, 24031, 1])
        # shift 0 1 0 behind push 0 5, the bytes 3, 0, 1, 0: 257 * 10099 + 3 + 1 = 2595447 = 39 * 65521 + 40128;
        #   257 * 40128 + 0 + 1 = 10312897 = 157 * 65521 + 26100; 257 * 26100 + 1 + 1 = 6707702 = 102 * 65521 + 24560;
        #   257 * 24560 + 0 + 1 = 6311921 = 96 * 65521 + 21905
        self.assertEqual(last(push(0, 5), shift(0, 1, 0), COUNTS), [2, 12, 21905, 1])

    def test_a_refused_call_is_not_counted(self):
        self.assertEqual(last(push(0, 5), push(0, -1), clear(1), mark(256), COUNTS), [1, 6, 10099, 1])

    def test_the_check_after_an_undo(self):
        self.assertEqual(ask(push(0, 5), mark(7), UNDO, COUNTS, UNDO, COUNTS)[2:],
                         [[1], [1, 6, 10099, 1], [0], [0, 0, 0, 1]])


class RecordTest(CallsTest):
    DEEDS = [push(0, 258), push(1, 3), shift(1, 0, 0), pull(0, 1), clear(0), mark(77)]
    BYTES = [[1, 0, 1, 2], [1, 1, 0, 3], [3, 1, 0, 0], [2, 0, 1], [4, 0], [5, 77]]

    def test_each(self):
        for i, told in enumerate(self.BYTES):
            self.assertEqual(last(*self.DEEDS, record(i)), told)

    def test_there_is_none(self):
        for i in (-1, -6, 6, 7, BIG, -BIG):
            self.assertEqual(last(*self.DEEDS, record(i)), [-1])
        for i in (-1, 0, 1):
            self.assertEqual(last(record(i)), [-1])

    def test_after_an_undo(self):
        self.assertEqual(last(*self.DEEDS, UNDO, record(5)), [-1])
        self.assertEqual(last(*self.DEEDS, UNDO, record(4)), [4, 0])


class LookingChangesNothingTest(CallsTest):
    def test_nothing_is_changed(self):
        calls = [push(0, 5), push(0, 6), mark(9)]
        looks = [shelf(0), shelf(8), MARKS, COUNTS, record(0), record(1), record(2), record(3)]
        self.assertEqual(seen(*calls, *looks, *looks), seen(*calls))
        told = ask(*calls, *looks, *looks)[3:]
        self.assertEqual(told[:8], told[8:])


if __name__ == "__main__":
    unittest.main()
