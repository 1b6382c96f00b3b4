"""Point 14: compact."""

import unittest

from helper import (BYTES, CHECK, COMPACT, COUNTS, MARKS, MEND, THREE_DEEDS, UNDO, RefusalTest, ask, at, clear,
                    everything, filled, flip, full_to, last, load, mark, pull, push, records_told, seen, shelf, shift,
                    since, written)

# Shelves and labels out of their order, with numbers taken away and put elsewhere.
BEFORE = [mark(200), push(7, 1), push(2, 300), mark(3), push(2, 4), push(0, 65535), mark(200), shift(7, 2, 0),
          push(7, 9), push(7, 8), pull(2, 1), clear(0), push(0, 6), push(0, 5), mark(0)]
# Then shelf 0 holds 6 and 5, shelf 2 holds 300 and 1, shelf 7 holds 9 and 8, and the labels are 0, 3 and 200.
AFTER = [push(0, 6), push(0, 5), push(2, 300), push(2, 1), push(7, 9), push(7, 8), mark(0), mark(3), mark(200)]
AFTER_BYTES = [[1, 0, 0, 6], [1, 0, 0, 5], [1, 2, 1, 44], [1, 2, 0, 1], [1, 7, 0, 9], [1, 7, 0, 8],
               [5, 0], [5, 3], [5, 200]]


class CompactTest(RefusalTest):
    def test_nothing_known(self):
        self.assertEqual(ask(COMPACT, COUNTS, BYTES), [[0, 0], [0, 0, 0, 1], [0]])
        self.unchanged([], COMPACT)

    def test_nothing_left(self):
        self.assertEqual(ask(push(0, 1), clear(0), COMPACT, COUNTS, BYTES)[2:], [[10, 0], [0, 0, 0, 1], [0]])
        self.assertEqual(ask(push(0, 1), pull(0, 0), COMPACT, UNDO)[2:], [[11, 0], [-6]])

    def test_answers_both_numbers_of_bytes(self):
        # 9 deeds of 6 bytes (pushes and a shift: 8 and 1), a pull of 5, a clear of 4 and 4 labels of 4 before it.
        self.assertEqual(last(*BEFORE, COUNTS)[1], 9 * 6 + 5 + 4 + 4 * 4)
        self.assertEqual(last(*BEFORE, COMPACT), [79, 6 * 6 + 3 * 4])

    def test_shelves_and_labels_are_as_they_were(self):
        for s in range(8):
            self.assertEqual(last(*BEFORE, COMPACT, shelf(s)), last(*BEFORE, shelf(s)))
        self.assertEqual(last(*BEFORE, COMPACT, MARKS), [3, 0, 3, 200])

    def test_shelf_by_shelf_and_then_the_labels(self):
        self.assertEqual(records_told(9, *BEFORE, COMPACT), [*AFTER_BYTES, [-1]])
        self.assertEqual(everything(*BEFORE, COMPACT), everything(*AFTER))

    def test_the_log_is_their_records(self):
        told = written(*AFTER_BYTES)
        self.assertEqual(ask(*BEFORE, COMPACT, BYTES, COUNTS, CHECK)[-3:],
                         [[48, *told], [9, 48, told[-2] * 256 + told[-1], 1], [9, 48, 48]])

    def test_a_log_worked_out_by_hand(self):
        # push 0 5 and mark 7 behind it, as at THREE, are left of these.
        calls = [mark(7), push(3, 5), mark(7), shift(3, 0, 0)]
        self.assertEqual(ask(*calls, COMPACT, BYTES, COUNTS)[4:],
                         [[20, 10], [10, 1, 0, 0, 5, 39, 115, 5, 7, 103, 253], [2, 10, 26621, 1]])

    def test_at_and_since_go_by_the_new_deeds(self):
        calls = [*BEFORE, COMPACT]
        self.assertEqual(ask(*calls, *[at(n, 0) for n in (0, 1, 2, 9, 10)])[-5:],
                         [[0], [1, 6], [2, 6, 5], [2, 6, 5], [-1]])
        self.assertEqual(ask(*calls, at(2, 2), at(3, 2), at(4, 2), at(5, 7))[-4:], [[0], [1, 300], [2, 300, 1], [1, 9]])
        self.assertEqual(ask(*calls, since(200), since(3), since(0), since(1))[-4:], [[0], [1], [2], [-6]])

    def test_undo_behind_it(self):
        for count in range(10):
            self.assertEqual(everything(*BEFORE, COMPACT, *[UNDO] * count), everything(*AFTER[:9 - count]))
        self.assertEqual(last(*BEFORE, COMPACT, *[UNDO] * 10), [-6])

    def test_deeds_behind_it(self):
        more = [shift(2, 1, 0), mark(1)]
        self.assertEqual(everything(*BEFORE, COMPACT, *more), everything(*AFTER, *more))
        self.assertEqual(last(*BEFORE, COMPACT, push(1, 1)), [10])

    def test_what_is_short_already(self):
        self.assertEqual(last(*AFTER, COMPACT), [48, 48])
        self.unchanged(AFTER, COMPACT)
        self.assertEqual(ask(*BEFORE, COMPACT, COMPACT)[-1], [48, 48])
        self.unchanged([*BEFORE, COMPACT], COMPACT)

    def test_the_same_numbers_in_another_order_of_deeds(self):
        self.assertEqual(everything(push(1, 7), push(0, 7), push(1, 6), COMPACT),
                         everything(push(0, 7), push(1, 7), push(1, 6)))
        self.assertEqual(everything(mark(9), mark(10), mark(2), push(0, 1), COMPACT),
                         everything(push(0, 1), mark(2), mark(9), mark(10)))

    def test_all_shelves_full_and_all_labels(self):
        told = [[1, s, 0, 100 + k] for s in range(8) for k in range(12)] + [[5, n] for n in range(256)]
        calls = [part for s in reversed(range(8)) for part in filled(s, 12)]
        loaded = load(*written(*[[1, s, 0, 100 + k] for s in reversed(range(8)) for k in range(12)],
                               *[[5, n] for n in reversed(range(256))]))
        self.assertEqual(ask(loaded, COMPACT, BYTES), [[352, 1600], [1600, 1600], [1600, *written(*told)]])
        self.assertEqual(ask(*calls, COMPACT, BYTES)[96:], [[576, 576], [576, *written(*told[:96])]])

    def test_a_full_log_has_room_again(self):
        calls = full_to(2000)
        self.assertEqual(ask(*calls, mark(1), COMPACT, mark(1), COUNTS)[-4:-1], [[-7], [2000, 10], [3]])

    def test_refused_where_the_log_is_not_sound(self):
        for p in (0, 7, 15):
            self.refused(-8, [*THREE_DEEDS, flip(p, 3)], COMPACT)
        self.assertEqual(ask(*THREE_DEEDS, flip(7, 3), COMPACT, flip(7, 7), COMPACT)[4:], [[-8], [3], [16, 16]])
        self.assertEqual(ask(*THREE_DEEDS, flip(7, 3), MEND, COMPACT)[4:], [[1, 6], [6, 6]])

    def test_another_right_log_is_not_sound_either(self):
        self.refused(-8, [mark(0), flip(1, 1), flip(3, 8)], COMPACT)

    def test_after_a_load(self):
        self.assertEqual(ask(mark(9), load(*written([5, 2], [5, 1], [5, 2])), COMPACT, BYTES)[1:],
                         [[3, 12], [12, 8], [8, *written([5, 1], [5, 2])]])

    def test_a_load_of_it_brings_the_same_back(self):
        told = last(*BEFORE, COMPACT, BYTES)[1:]
        self.assertEqual(seen(load(*told)), seen(*BEFORE, COMPACT))


if __name__ == "__main__":
    unittest.main()
