"""Point 2: undo."""

import unittest

from helper import (COUNTS, MARKS, UNDO, CallsTest, ask, clear, filled, last, mark, pull, push, record, records_told,
                    seen, shelf, shift)

BEFORE = [push(0, 10), push(0, 11), push(0, 12), push(1, 20), mark(4), mark(200)]


class UndoTest(CallsTest):
    def undone(self, before, call):
        self.assertEqual(last(*before, call), [len(before) + 1])
        self.assertNotEqual(seen(*before, call), seen(*before))
        self.assertEqual(last(*before, call, UNDO), [len(before)])
        self.assertEqual(seen(*before, call, UNDO), seen(*before))
        self.assertEqual(records_told(len(before), *before, call, UNDO), records_told(len(before), *before))

    def test_push(self):
        self.undone(BEFORE, push(0, 11))
        self.undone([], push(7, 65535))
        self.undone(filled(3, 11), push(3, 1))

    def test_pull(self):
        for i in range(3):
            self.undone(BEFORE, pull(0, i))
        self.undone(filled(3, 12), pull(3, 11))

    def test_shift(self):
        for i in range(3):
            self.undone(BEFORE, shift(0, 1, i))
        self.undone(BEFORE, shift(1, 0, 0))
        self.undone([push(0, 1), *filled(1, 11)], shift(0, 1, 0))

    def test_clear(self):
        self.undone(BEFORE, clear(0))
        self.undone(filled(3, 12), clear(3))

    def test_mark(self):
        self.undone(BEFORE, mark(0))
        self.undone([], mark(255))

    def test_a_label_set_twice_and_undone_once(self):
        self.assertEqual(ask(mark(4), mark(4), UNDO, MARKS, UNDO, MARKS), [[1], [2], [1], [1, 4], [0], [0]])
        self.assertEqual(last(mark(4), push(0, 1), mark(4), UNDO, UNDO, MARKS), [1, 4])

    def test_no_deed_known(self):
        self.assertEqual(ask(UNDO, COUNTS, MARKS), [[-6], [0, 0, 0, 1], [0]])
        self.assertEqual(ask(push(0, 1), UNDO, UNDO, COUNTS), [[1], [0], [-6], [0, 0, 0, 1]])
        self.assertEqual(ask(UNDO, push(0, 1), shelf(0)), [[-6], [1], [1, 1]])

    def test_all_the_way_back(self):
        calls = [*BEFORE, pull(0, 1), shift(0, 1, 1), clear(1), mark(4), push(1, 9)]
        for count in range(len(calls) + 1):
            self.assertEqual(seen(*calls, *[UNDO] * count), seen(*calls[:len(calls) - count]))

    def test_a_refused_deed_is_none_to_undo(self):
        self.assertEqual(last(push(0, 1), push(0, 2), push(8, 3), UNDO, shelf(0)), [1, 1])

    def test_goes_on_with_other_deeds(self):
        self.assertEqual(seen(push(0, 1), clear(0), UNDO, push(0, 2)), seen(push(0, 1), push(0, 2)))
        self.assertEqual(last(push(0, 1), clear(0), UNDO, mark(3), record(1)), [5, 3])


if __name__ == "__main__":
    unittest.main()
