"""Points 8 and 9: bytes and flip."""

import unittest

from helper import (BIG, BYTES, CHECK, COMPACT, COUNTS, MEND, THREE, THREE_DEEDS, UNDO, RefusalTest, ask, clear, common,
                    everything, flip, full_to, last, load, mark, pull, push, record, records_told, shift, written)


class BytesTest(RefusalTest):
    def test_of_an_empty_log(self):
        self.assertEqual(last(BYTES), [0])
        self.assertEqual(last(push(0, 1), UNDO, BYTES), [0])

    def test_three_records_worked_out_by_hand(self):
        self.assertEqual(last(*THREE_DEEDS, BYTES), [16, *THREE])
        self.assertEqual(last(*THREE_DEEDS, UNDO, BYTES), [10, *THREE[:10]])

    def test_other_kinds_worked_out_by_hand(self):
        # Behind push 0 5, whose check is 10099 = 39 * 256 + 115, shift 0 1 0 has the bytes 3, 0, 1, 0:
        #   257 * 10099 + 3 + 1 = 2595447 = 39 * 65521 + 40128
        #   257 * 40128 + 0 + 1 = 10312897 = 157 * 65521 + 26100
        #   257 * 26100 + 1 + 1 = 6707702 = 102 * 65521 + 24560
        #   257 * 24560 + 0 + 1 = 6311921 = 96 * 65521 + 21905, and 21905 = 85 * 256 + 145
        # pull 1 0 has the bytes 2, 1, 0:
        #   257 * 21905 + 2 + 1 = 5629588 = 85 * 65521 + 60303
        #   257 * 60303 + 1 + 1 = 15497873 = 236 * 65521 + 34917
        #   257 * 34917 + 0 + 1 = 8973670 = 136 * 65521 + 62814, and 62814 = 245 * 256 + 94
        bytes_of = [1, 0, 0, 5, 39, 115, 3, 0, 1, 0, 85, 145, 2, 1, 0, 245, 94]
        self.assertEqual(last(push(0, 5), shift(0, 1, 0), pull(1, 0), BYTES), [17, *bytes_of])
        # clear 0 behind push 0 5 has the bytes 4, 0: 257 * 10099 + 4 + 1 = 2595448 = 39 * 65521 + 40129;
        #   257 * 40129 + 0 + 1 = 10313154 = 157 * 65521 + 26357, and 26357 = 102 * 256 + 245
        self.assertEqual(last(push(0, 5), clear(0), BYTES), [10, 1, 0, 0, 5, 39, 115, 4, 0, 102, 245])

    def test_of_a_log_with_2000_bytes(self):
        calls = full_to(2000)
        told = last(*calls, BYTES)
        self.assertEqual(len(told), 2001)
        self.assertEqual(told[0], 2000)
        self.assertEqual(told[1:], written(*records_told(len(calls), *calls)[:-1]))

    def test_after_a_flip(self):
        self.assertEqual(last(*THREE_DEEDS, flip(6, 255), BYTES), [16, *THREE[:6], 255, *THREE[7:]])

    def test_nothing_is_changed(self):
        self.unchanged(THREE_DEEDS, BYTES, BYTES)
        self.unchanged([*THREE_DEEDS, flip(0, 9)], BYTES)


class FlipTest(RefusalTest):
    def test_answers_the_byte_that_was_there(self):
        for p in range(16):
            self.assertEqual(last(*THREE_DEEDS, flip(p, 200)), [THREE[p]])
            self.assertEqual(ask(*THREE_DEEDS, flip(p, 200), flip(p, 0), flip(p, 1))[4:], [[200], [0]])

    def test_that_byte_alone_is_another(self):
        for p in range(16):
            for b in (0, 255):
                self.assertEqual(last(*THREE_DEEDS, flip(p, b), BYTES), [16, *THREE[:p], b, *THREE[p + 1:]])

    def test_what_is_known_is_as_it_was(self):
        (*looks, counts, told), records = everything(*THREE_DEEDS)
        for p in range(16):
            (*looks_now, counts_now, told_now), records_now = everything(*THREE_DEEDS, flip(p, 254))
            self.assertEqual((looks_now, records_now), (looks, records))
            self.assertEqual(counts_now, [3, 16, 22652, 0])
        self.assertEqual(counts, [3, 16, 22652, 1])

    def test_p_at_its_edges(self):
        self.assertEqual(last(*THREE_DEEDS, flip(0, 9)), [1])
        self.assertEqual(last(*THREE_DEEDS, flip(15, 9)), [124])
        for p in (-1, -16, 16, 17, BIG, -BIG):
            self.refused(-1, THREE_DEEDS, flip(p, 9))

    def test_no_place_in_an_empty_log(self):
        for p in (-1, 0, 1):
            self.refused(-1, [], flip(p, 0))
        self.refused(-1, [push(0, 1), UNDO], flip(0, 0))

    def test_the_last_place_of_2000(self):
        calls = full_to(2000)
        self.assertGreaterEqual(last(*calls, flip(1999, 1))[0], 0)
        self.refused(-1, calls, flip(2000, 1))

    def test_b_at_its_edges(self):
        for b in (0, 255):
            self.assertEqual(ask(*THREE_DEEDS, flip(4, b), flip(4, 1))[3:], [[39], [b]])
        for b in (-1, -256, 256, 257, BIG, -BIG):
            self.refused(-1, THREE_DEEDS, flip(4, b))
            self.refused(-1, THREE_DEEDS, flip(16, b))

    def test_the_same_byte_leaves_the_log_sound(self):
        for p in range(16):
            self.assertEqual(last(*THREE_DEEDS, flip(p, THREE[p])), [THREE[p]])
            self.unchanged(THREE_DEEDS, flip(p, THREE[p]))
        self.assertEqual(ask(*THREE_DEEDS, flip(4, 39), mark(1), UNDO)[4:], [[4], [3]])

    def test_changed_back_is_sound_again(self):
        for p in range(16):
            there_and_back = [flip(p, THREE[p] + 1), flip(p, THREE[p])]
            self.unchanged(THREE_DEEDS, *there_and_back)
            self.assertEqual(last(*THREE_DEEDS, *there_and_back, mark(1)), [4])

    def test_two_changed_and_one_changed_back_is_not(self):
        calls = [*THREE_DEEDS, flip(1, 2), flip(5, 2), flip(1, 0)]
        self.assertEqual(ask(*calls, COUNTS, flip(5, 115), COUNTS)[6:], [[3, 16, 22652, 0], [2], [3, 16, 22652, 1]])

    def test_in_the_middle_of_a_record_and_in_a_check(self):
        # The places 6 and 7 hold the bytes of mark 7, and 8 and 9 its check; the record ahead of it stays right.
        for p in (6, 7, 8, 9):
            self.assertEqual(ask(*THREE_DEEDS, flip(p, 1), COUNTS, CHECK)[4:], [[3, 16, 22652, 0], [1, 6, 16]])

    def test_another_right_log_is_not_sound_either(self):
        # mark 0 has the check 6 * 256 + 7, mark 1 the check 6 * 256 + 8: all records are right, but not those known.
        calls = [mark(0), flip(1, 1), flip(3, 8)]
        self.assertEqual(ask(*calls, BYTES, COUNTS, CHECK, record(0))[3:],
                         [[4, 5, 1, 6, 8], [1, 4, 1543, 0], [1, 4, 4], [5, 0]])
        self.assertEqual(ask(*calls, MEND, COUNTS, record(0))[3:], [[1, 4], [1, 4, 1544, 1], [5, 1]])

    def test_after_load_and_compact(self):
        self.assertEqual(ask(load(*THREE), flip(3, 6), COUNTS)[1:], [[5], [3, 16, 22652, 0]])
        told = ask(*THREE_DEEDS, COMPACT, flip(0, 6), COUNTS)
        self.assertEqual((told[4], told[5][:2], told[5][3]), ([1], [3, 16], 0))

    def test_common_goes_by_the_byte_that_is_there_now(self):
        self.assertEqual(ask(*THREE_DEEDS, flip(9, 0), common(*THREE), flip(9, 253), common(*THREE))[4:],
                         [[1], [0], [3]])


if __name__ == "__main__":
    unittest.main()
