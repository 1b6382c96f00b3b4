"""Points 10 to 12: cut, mend, check and load, and what is recovered of bytes."""

import unittest

from helper import (BIG, BYTES, CHECK, COMPACT, COUNTS, EACH_ENDS, EACH_KIND, MARKS, MARKS_500, MEND, ONE_CHECK,
                    SAME_CHECK, THREE, THREE_DEEDS, UNDO, RefusalTest, ask, at, clear, common, cut, everything, filled,
                    flip, full_to, last, load, mark, pull, push, record, records_told, seen, shelf, shift, since,
                    written)

# Where the records of THREE end, from none of them to all.
ENDS = [0, 6, 10, 16]


def records_before(ends, place):
    return max(k for k, end in enumerate(ends) if end <= place)


class CutTest(RefusalTest):
    def test_at_every_place(self):
        for calls, ends in ((THREE_DEEDS, ENDS), (EACH_KIND, EACH_ENDS)):
            for n in range(ends[-1] + 1):
                known = records_before(ends, n)
                self.assertEqual(last(*calls, cut(n)), [known, ends[known]], n)
                self.assertEqual(everything(*calls, cut(n)), everything(*calls[:known]), n)

    def test_at_a_records_end_worked_out_by_hand(self):
        self.assertEqual(ask(*THREE_DEEDS, cut(10), BYTES, COUNTS, MARKS, shelf(3))[3:],
                         [[2, 10], [10, *THREE[:10]], [2, 10, 26621, 1], [1, 7], [0]])

    def test_within_a_record_worked_out_by_hand(self):
        for n in (7, 8, 9):
            self.assertEqual(ask(*THREE_DEEDS, cut(n), BYTES, COUNTS, MARKS, shelf(0))[3:],
                             [[1, 6], [6, *THREE[:6]], [1, 6, 10099, 1], [0], [1, 5]])

    def test_n_at_its_edges(self):
        self.assertEqual(ask(*THREE_DEEDS, cut(0), COUNTS, BYTES)[3:], [[0, 0], [0, 0, 0, 1], [0]])
        self.assertEqual(last(*THREE_DEEDS, cut(16)), [3, 16])
        self.unchanged(THREE_DEEDS, cut(16))
        for n in (-1, -16, 17, 18, BIG, -BIG):
            self.refused(-1, THREE_DEEDS, cut(n))

    def test_of_an_empty_log(self):
        self.assertEqual(last(cut(0)), [0, 0])
        self.unchanged([], cut(0))
        for n in (-1, 1):
            self.refused(-1, [], cut(n))

    def test_goes_by_the_shorter_log_next_time(self):
        self.assertEqual(ask(*THREE_DEEDS, cut(15), cut(16), cut(11), cut(10))[3:], [[2, 10], [-1], [-1], [2, 10]])

    def test_of_a_log_with_2000_bytes(self):
        self.assertEqual(ask(load(*MARKS_500), cut(2000), cut(2001), cut(1999), cut(1997))[1:],
                         [[500, 2000], [-1], [499, 1996], [-1]])

    def test_of_a_log_that_is_not_sound(self):
        spoiled = [*THREE_DEEDS, flip(7, 8)]
        # Cut ahead of the spoiled record and behind it: the one before it is all that's left.
        for n in (6, 7, 10, 15, 16):
            self.assertEqual(last(*spoiled, cut(n)), [1, 6])
            self.assertEqual(everything(*spoiled, cut(n)), everything(*THREE_DEEDS[:1]))
        self.assertEqual(everything(*spoiled, cut(5)), everything())
        for n in (-1, 17):
            self.refused(-1, spoiled, cut(n))
        # The spoiled byte is cut off with its record, and deeds can be done again.
        self.assertEqual(ask(*THREE_DEEDS, flip(15, 0), mark(1), cut(15), mark(1))[4:], [[-8], [2, 10], [3]])

    def test_what_is_done_behind_it(self):
        calls = [*THREE_DEEDS, cut(10)]
        self.assertEqual(everything(*calls, push(3, 258)), everything(*THREE_DEEDS))
        self.assertEqual(everything(*calls, UNDO), everything(*THREE_DEEDS[:1]))
        self.assertEqual(ask(*calls, record(1), record(2), at(2, 0), at(3, 0), since(7))[4:],
                         [[5, 7], [-1], [1, 5], [-1], [0]])


class MendTest(RefusalTest):
    def mended(self, before, known):
        """The log comes back to so many records, and check tells it ahead."""
        left = last(*THREE_DEEDS[:known], COUNTS)[1] if known > 0 else 0
        self.assertEqual(last(*before, CHECK), [known, left, 16])
        self.unchanged(before, CHECK)
        self.assertEqual(last(*before, MEND), [known, left])
        self.assertEqual(everything(*before, MEND), everything(*THREE_DEEDS[:known]))
        self.assertEqual(everything(*before, CHECK, MEND), everything(*THREE_DEEDS[:known]))

    def test_every_byte_spoiled(self):
        for p in range(16):
            for b in (0, 1, THREE[p] ^ 1, 255 - THREE[p]):
                known = records_before(ENDS, p) if b != THREE[p] else 3
                self.mended([*THREE_DEEDS, flip(p, b)], known)

    def test_in_the_first_record_worked_out_by_hand(self):
        self.assertEqual(ask(*THREE_DEEDS, flip(2, 1), CHECK, MEND, BYTES, COUNTS, shelf(0), MARKS)[4:],
                         [[0, 0, 16], [0, 0], [0], [0, 0, 0, 1], [0], [0]])

    def test_in_the_middle_one_worked_out_by_hand(self):
        self.assertEqual(ask(*THREE_DEEDS, flip(7, 9), CHECK, MEND, BYTES, COUNTS, shelf(0), MARKS, shelf(3))[4:],
                         [[1, 6, 16], [1, 6], [6, 1, 0, 0, 5, 39, 115], [1, 6, 10099, 1], [1, 5], [0], [0]])

    def test_in_the_last_one_worked_out_by_hand(self):
        self.assertEqual(ask(*THREE_DEEDS, flip(14, 89), CHECK, MEND, BYTES)[4:],
                         [[2, 10, 16], [2, 10], [10, 1, 0, 0, 5, 39, 115, 5, 7, 103, 253]])
        self.assertEqual(ask(*THREE_DEEDS, flip(14, 89), MEND, COUNTS, shelf(3), MARKS)[5:],
                         [[2, 10, 26621, 1], [0], [1, 7]])

    def test_not_spoiled(self):
        self.mended(THREE_DEEDS, 3)
        self.unchanged(THREE_DEEDS, MEND)
        self.unchanged(EACH_KIND, MEND)
        self.assertEqual(ask(*EACH_KIND, CHECK, MEND)[6:], [[6, 31, 31], [6, 31]])

    def test_empty(self):
        self.assertEqual(ask(CHECK, MEND, CHECK), [[0, 0, 0], [0, 0], [0, 0, 0]])
        self.unchanged([], MEND, CHECK)

    def test_a_log_with_2000_bytes(self):
        calls = full_to(2000)
        self.assertEqual(ask(*calls, CHECK, MEND)[len(calls):], [[len(calls), 2000, 2000], [len(calls), 2000]])
        self.unchanged(calls, MEND)
        self.assertEqual(ask(load(*MARKS_500), flip(1996, 6), CHECK, MEND)[2:], [[499, 1996, 2000], [499, 1996]])

    def test_the_check_alone_does_not_make_a_record_right(self):
        # mark 0 and mark 1 behind one another, the second made to be clear 0 with the right check for it.
        told = written([5, 0], [4, 0])
        calls = [mark(0), mark(1), flip(4, 4), flip(5, 0), flip(6, told[6]), flip(7, told[7])]
        self.assertEqual(ask(*calls, BYTES, CHECK, MEND, MARKS)[6:], [[8, *told], [1, 4, 8], [1, 4], [1, 0]])

    def test_other_deeds_come_out_of_bytes_changed_rightly(self):
        told = written([5, 0], [5, 200])
        calls = [mark(0), mark(1), flip(5, 200), flip(6, told[6]), flip(7, told[7])]
        self.assertEqual(ask(*calls, COUNTS, MARKS, MEND, MARKS, COUNTS)[6:],
                         [[2, 0, 1], [2, 8], [2, 0, 200], [2, 8, told[6] * 256 + told[7], 1]])

    def test_other_bytes_with_the_same_check(self):
        # Push 0 526 becomes push 1 0: its check, and the record behind it, stay right.
        self.assertEqual(last(push(0, 526), BYTES), [6, *ONE_CHECK])
        calls = [push(0, 526), mark(1), flip(1, 1), flip(2, 0), flip(3, 0)]
        self.assertEqual(last(*calls, BYTES)[:7], [10, *SAME_CHECK])
        self.assertEqual(ask(*calls, CHECK, COUNTS)[5][:2], [2, 10])
        self.assertEqual(last(*calls, COUNTS)[3], 0)
        self.assertEqual(everything(*calls, MEND), everything(push(1, 0), mark(1)))

    def test_what_is_done_behind_it(self):
        calls = [*THREE_DEEDS, flip(12, 99), MEND]
        self.assertEqual(everything(*calls, push(3, 258)), everything(*THREE_DEEDS))
        self.assertEqual(everything(*calls, UNDO), everything(*THREE_DEEDS[:1]))
        self.assertEqual(ask(*calls, UNDO, UNDO, UNDO)[5:], [[1], [0], [-6]])

    def test_check_changes_nothing(self):
        self.unchanged(THREE_DEEDS, CHECK)
        for p in (0, 7, 15):
            self.unchanged([*THREE_DEEDS, flip(p, 3)], CHECK, CHECK)
        self.assertEqual(ask(*THREE_DEEDS, flip(7, 8), CHECK, mark(1), flip(7, 7), CHECK, mark(1))[4:],
                         [[1, 6, 16], [-8], [8], [3, 16, 16], [4]])


class LoadTest(RefusalTest):
    BEFORE = [push(5, 9), mark(44)]

    def recovered(self, bytes_of, *deeds):
        """Of these bytes just these deeds come back, on a new object, on one with deeds and on one that isn't sound."""
        size = last(*deeds, COUNTS)[1] if deeds else 0
        for before in ([], self.BEFORE, [*self.BEFORE, flip(3, 0)]):
            self.assertEqual(last(*before, load(*bytes_of)), [len(deeds), size], bytes_of)
            self.assertEqual(everything(*before, load(*bytes_of)), everything(*deeds), bytes_of)

    def test_three_records_worked_out_by_hand(self):
        self.recovered(THREE, *THREE_DEEDS)
        self.assertEqual(ask(load(*THREE), BYTES, COUNTS, shelf(0), MARKS, shelf(3)),
                         [[3, 16], [16, *THREE], [3, 16, 22652, 1], [1, 5], [1, 7], [1, 258]])

    def test_three_records_spoiled(self):
        for p in range(16):
            for b in (0, 255, THREE[p] ^ 2):
                if b != THREE[p]:
                    self.recovered([*THREE[:p], b, *THREE[p + 1:]], *THREE_DEEDS[:records_before(ENDS, p)])

    def test_each_kind(self):
        told = last(*EACH_KIND, BYTES)[1:]
        for n in range(32):
            self.recovered(told[:n], *EACH_KIND[:records_before(EACH_ENDS, n)])

    def test_no_bytes(self):
        self.recovered([])
        self.assertEqual(ask(push(0, 1), load(), BYTES, COUNTS, UNDO)[1:], [[0, 0], [0], [0, 0, 0, 1], [-6]])

    def test_the_edges_of_a_push(self):
        for s, v in ((0, 0), (7, 65535), (3, 255), (3, 256)):
            self.recovered(written([1, s, v // 256, v % 256]), push(s, v))

    def test_2000_numbers(self):
        self.assertEqual(ask(push(0, 1), load(*MARKS_500), COUNTS, MARKS)[1:],
                         [[500, 2000], [500, 2000, MARKS_500[-2] * 256 + MARKS_500[-1], 1], [256, *range(256)]])
        self.assertEqual(last(load(*MARKS_500), BYTES), [2000, *MARKS_500])
        self.assertEqual(last(load(*MARKS_500), mark(1)), [-7])
        self.assertEqual(last(load(*[0] * 2000)), [0, 0])
        self.assertEqual(last(load(*THREE, *[255] * 1984)), [3, 16])

    def test_more_than_2000_numbers(self):
        for bytes_of in ([*MARKS_500, 5], [*MARKS_500, 0], [0] * 2001, [*THREE, *[0] * 2184], [*MARKS_500, *[5] * 200]):
            self.refused(-2, [], load(*bytes_of))
            self.refused(-2, self.BEFORE, load(*bytes_of))
            self.refused(-2, [*self.BEFORE, flip(3, 0)], load(*bytes_of))

    def test_a_number_that_is_no_byte(self):
        for number in (-1, 256, -256, BIG, -BIG):
            for place in (0, 4, 10, 15, 16):
                bytes_of = [*THREE[:place], number, *THREE[place:]]
                self.refused(-2, self.BEFORE, load(*bytes_of))
            self.refused(-2, [*self.BEFORE, flip(3, 0)], load(*THREE, number))
            # Behind bytes that aren't right, and at the end of 2000 or more.
            self.refused(-2, self.BEFORE, load(0, 0, number))
            self.refused(-2, self.BEFORE, load(*MARKS_500[:-1], number))
            self.refused(-2, self.BEFORE, load(*[0] * 2199, number))
            self.refused(-2, self.BEFORE, load(number))

    def test_bytes_at_their_edges(self):
        self.assertEqual(last(load(0)), [0, 0])
        self.assertEqual(last(load(255)), [0, 0])
        self.assertEqual(last(load(*written([5, 255], [5, 0])), MARKS), [2, 0, 255])

    def test_no_kind(self):
        for kind in (0, 6, 7, 255):
            for length in (1, 2, 3, 4):
                self.recovered(written([kind] + [0] * (length - 1)))
                self.recovered(written([5, 3], [kind] + [0] * (length - 1), [5, 4]), mark(3))
            self.recovered([kind])

    def test_each_kind_has_its_own_count_of_bytes(self):
        # A byte too few or too many, with the check that would be right for these bytes.
        first = [1, 0, 0, 5]
        for deed in ([1, 0, 0, 5], [2, 0, 0], [3, 0, 1, 0], [4, 0], [5, 9]):
            self.recovered(written(first, [*deed, 0]), push(0, 5))
            self.recovered(written(first, deed[:-1]), push(0, 5))

    def test_ends_within_a_deed_or_a_check(self):
        # A push behind mark 3: ends after each of its bytes, ahead of the check, and after one byte of the check.
        told = written([5, 3], [1, 2, 3, 4])
        for end in range(4, 10):
            self.recovered(told[:end], mark(3))
        self.recovered(told, mark(3), push(2, 772))
        for end in (1, 2, 3):
            self.recovered(told[:end])

    def test_the_bytes_of_the_check_the_wrong_way_round(self):
        self.recovered([5, 0, 7, 6])
        self.recovered([5, 0, 6, 7], mark(0))

    def test_a_check_that_does_not_hang_on_the_record_before(self):
        # mark 0 with the check of a first record, behind another one.
        self.recovered([5, 0, 6, 7, 5, 0, 6, 7], mark(0))
        self.recovered(THREE[6:])

    def test_a_check_one_off(self):
        self.recovered([5, 0, 6, 8])
        self.recovered([5, 0, 6, 6])
        self.recovered([5, 0, 5, 7])
        self.recovered([5, 0, 7, 7])

    def test_a_check_that_is_the_right_one_and_the_modulus(self):
        # With a check below 15, that and 65521 would fit into two bytes, too, but isn't the check.
        a, b = next((a, b) for a in range(256) for b in range(256) if written([5, a], [5, b])[6:] < [0, 15])
        told = written([5, a], [5, b])
        self.recovered(told, mark(a), mark(b))
        self.recovered([*told[:6], *divmod(told[7] + 65521, 256)], mark(a))

    def test_deeds_that_cannot_be_done_worked_out_by_hand(self):
        # clear 0, the bytes 4, 0: 4 + 1 = 5; 257 * 5 + 0 + 1 = 1286 = 5 * 256 + 6
        self.recovered([4, 0, 5, 6])
        # pull 0 0, the bytes 2, 0, 0: 3; 257 * 3 + 1 = 772; 257 * 772 + 1 = 198405 = 3 * 65521 + 1842 and 7 * 256 + 50
        self.recovered([2, 0, 0, 7, 50])
        # push 8 0, the bytes 1, 8, 0, 0: 2; 257 * 2 + 9 = 523; 257 * 523 + 1 = 134412 = 2 * 65521 + 3370;
        #   257 * 3370 + 1 = 866091 = 13 * 65521 + 14318, and 14318 = 55 * 256 + 238
        self.recovered([1, 8, 0, 0, 55, 238])

    def not_recovered(self, deeds, deed_bytes):
        """The deed can't be done behind these, and what's behind it is gone with it."""
        known = records_told(len(deeds), *deeds)[:-1]
        self.recovered(written(*known, deed_bytes), *deeds)
        self.recovered(written(*known, deed_bytes, [5, 1]), *deeds)

    def test_no_such_shelf(self):
        for s in (8, 9, 255):
            before = [push(0, 1), push(7, 2)]
            for deed in ([1, s, 0, 1], [2, s, 0], [3, s, 0, 0], [3, 0, s, 0], [3, s, s, 0], [4, s]):
                self.not_recovered(before, deed)

    def test_a_thirteenth_number(self):
        for s in (0, 7):
            self.not_recovered(filled(s, 12), [1, s, 0, 1])
        self.recovered(written(*[[1, 6, 0, 100 + k] for k in range(12)]), *filled(6, 12))

    def test_no_such_place(self):
        self.not_recovered(filled(3, 3), [2, 3, 3])
        self.not_recovered(filled(3, 3), [2, 3, 255])
        self.not_recovered(filled(3, 3), [2, 2, 0])
        self.not_recovered(filled(3, 12), [2, 3, 12])
        self.not_recovered(filled(3, 3), [3, 3, 2, 3])
        self.not_recovered(filled(3, 3), [3, 2, 3, 0])

    def test_shift_to_the_same_or_to_a_full_shelf(self):
        self.not_recovered(filled(3, 3), [3, 3, 3, 0])
        self.not_recovered([push(0, 1), *filled(1, 12)], [3, 0, 1, 0])

    def test_clear_of_an_empty_shelf(self):
        self.not_recovered([push(0, 1)], [4, 1])
        self.not_recovered([push(0, 1), clear(0)], [4, 0])
        self.not_recovered([push(0, 1), shift(0, 1, 0)], [4, 0])
        self.not_recovered([push(0, 1), pull(0, 0)], [4, 0])

    def test_can_be_done_as_the_shelves_are_then(self):
        # The shelves before the load have no say: clear 5 could be done on them, a thirteenth number on 3 could not.
        self.assertEqual(ask(push(5, 1), load(*written([4, 5])), COUNTS)[1:], [[0, 0], [0, 0, 0, 1]])
        self.assertEqual(last(*filled(3, 12), load(*written([1, 3, 0, 9])), shelf(3)), [1, 9])

    def test_right_records_behind_one_that_is_not(self):
        self.recovered(written([5, 1], [6, 2], [5, 3]), mark(1))
        spoiled = written([5, 1], [5, 2], [5, 3])
        spoiled[5] = 4
        self.recovered(spoiled, mark(1))
        # One byte too many in between: the records behind it are never looked for.
        told = written([5, 1], [5, 2])
        self.recovered([*told[:4], 0, *told[4:]], mark(1))
        self.recovered([0, *told])

    def test_bytes_behind_the_last_right_record_are_gone(self):
        self.recovered([*THREE, 0], *THREE_DEEDS)
        self.recovered([*THREE, 5, 7, 0], *THREE_DEEDS)
        self.assertEqual(last(load(*THREE, 1, 2, 3), BYTES), [16, *THREE])

    def test_a_label_may_be_set_again(self):
        self.recovered(written([5, 9], [5, 9], [5, 9]), mark(9), mark(9), mark(9))

    def test_the_log_itself(self):
        told = last(*EACH_KIND, BYTES)[1:]
        self.unchanged(EACH_KIND, load(*told))

    def test_on_a_log_that_is_not_sound(self):
        calls = [*THREE_DEEDS, flip(0, 9), load(*THREE[:10])]
        self.assertEqual(ask(*calls, mark(1), UNDO, UNDO, UNDO, UNDO)[4:], [[2, 10], [3], [2], [1], [0], [-6]])

    def test_what_is_done_behind_it(self):
        self.assertEqual(everything(mark(1), load(*THREE[:10]), push(3, 258)), everything(*THREE_DEEDS))
        self.assertEqual(everything(load(*THREE), UNDO), everything(*THREE_DEEDS[:2]))
        self.assertEqual(everything(load(*THREE), cut(9)), everything(*THREE_DEEDS[:1]))
        self.assertEqual(ask(load(*THREE), record(0), record(2), record(3))[1:], [[1, 0, 0, 5], [1, 3, 1, 2], [-1]])
        self.assertEqual(last(load(*THREE), COMPACT), [16, 16])
        self.assertEqual(last(load(*THREE), common(*THREE)), [3])
        self.assertEqual(seen(load(*THREE), load(), *THREE_DEEDS), seen(*THREE_DEEDS))


if __name__ == "__main__":
    unittest.main()
