"""Point 13: common."""

import unittest

from helper import (BIG, BYTES, CHECK, COMPACT, EACH_ENDS, EACH_KIND, MARKS_500, ONE_CHECK, SAME_CHECK, THREE,
                    THREE_DEEDS, UNDO, RefusalTest, ask, common, cut, flip, last, load, mark, pull, push, written)


def flips(place, bytes_of):
    """Calls that write these bytes over those of the log from the place on."""
    return [flip(place + k, byte) for k, byte in enumerate(bytes_of)]


class CommonTest(RefusalTest):
    def alike(self, count, before, bytes_of):
        self.assertEqual(last(*before, common(*bytes_of)), [count], bytes_of)
        self.unchanged(before, common(*bytes_of))

    def test_the_log_itself(self):
        self.alike(3, THREE_DEEDS, THREE)
        self.alike(6, EACH_KIND, last(*EACH_KIND, BYTES)[1:])
        self.alike(500, [load(*MARKS_500)], MARKS_500)

    def test_a_beginning_of_it(self):
        told = last(*EACH_KIND, BYTES)[1:]
        for n in range(32):
            self.alike(sum(end <= n for end in EACH_ENDS) - 1, EACH_KIND, told[:n])

    def test_more_than_it(self):
        told = written([1, 0, 0, 5], [5, 7], [1, 3, 1, 2], [5, 9], [4, 0])
        self.assertEqual(told[:16], THREE)
        self.alike(3, THREE_DEEDS, told)
        self.alike(2, THREE_DEEDS[:2], told)
        self.alike(0, [], told)
        self.alike(3, THREE_DEEDS, [*THREE, 0])
        self.alike(3, THREE_DEEDS, [*THREE, 5, 9, 0])

    def test_two_empty_ones(self):
        self.alike(0, [], [])
        self.alike(0, [mark(1), UNDO], [])

    def test_one_empty(self):
        self.alike(0, THREE_DEEDS, [])
        self.alike(0, [], THREE)

    def test_parting_within_a_record_or_in_a_check(self):
        # Another byte at every place: the records before it are alike, worked out by hand they end at 6, 10 and 16.
        for p, byte in enumerate(THREE):
            for b in (0, 255, byte ^ 1):
                if b != byte:
                    self.alike(sum(end <= p for end in (6, 10)), THREE_DEEDS, [*THREE[:p], b, *THREE[p + 1:]])

    def test_parting_where_both_have_right_records(self):
        self.alike(1, [mark(1), mark(2), mark(3)], written([5, 1], [5, 4], [5, 3]))
        self.alike(0, [mark(1), mark(2)], written([5, 2], [5, 2]))
        self.alike(2, [mark(1), mark(2), push(0, 1)], written([5, 1], [5, 2], [5, 3]))
        self.alike(1, [push(0, 256), push(0, 1)], written([1, 0, 1, 0], [1, 0, 1, 1]))

    def test_right_records_alike_behind_a_difference_are_not_counted(self):
        told = written([5, 1], [5, 2], [5, 3])
        self.alike(1, [mark(1), mark(2), mark(3)], [*told[:5], 9, *told[6:]])
        self.alike(0, [mark(1), mark(2), mark(3)], told[4:])

    def test_other_bytes_with_the_same_check_are_not_alike(self):
        # The records behind them are right in both and have the same bytes, but the first ones part.
        behind = written([1, 0, 2, 14], [5, 1])[6:]
        self.assertEqual(written([1, 1, 0, 0], [5, 1]), [*SAME_CHECK, *behind])
        self.alike(0, [push(0, 526), mark(1)], [*SAME_CHECK, *behind])
        self.alike(2, [push(0, 526), mark(1)], [*ONE_CHECK, *behind])
        self.alike(0, [push(0, 526), mark(1), *flips(0, SAME_CHECK)], [*ONE_CHECK, *behind])
        self.alike(2, [push(0, 526), mark(1), *flips(0, SAME_CHECK)], [*SAME_CHECK, *behind])

    def test_deeds_that_cannot_be_done_are_counted(self):
        # The log is made, byte by byte, to be clear 0, pull 9 200 and mark 1, all with the right checks.
        told = written([4, 0], [2, 9, 200], [5, 1])
        self.assertEqual(told[:4], [4, 0, 5, 6])
        before = [mark(1), push(0, 1), pull(0, 0), *flips(0, [*told, 0, 0])]
        self.assertEqual(ask(*before, BYTES, CHECK)[-2:], [[15, *told, 0, 0], [0, 0, 15]])
        self.alike(3, before, told)
        self.alike(2, before, told[:9])
        self.alike(1, before, told[:8])
        self.alike(1, before, written([4, 0], [2, 9, 201], [5, 1]))
        # Nothing of it can be recovered.
        self.assertEqual(last(*before, cut(13)), [0, 0])

    def test_neither_may_have_a_wrong_record_though_both_are_alike(self):
        # The same spoiled bytes in both: they're alike, but no record there is right.
        for p, before_it in ((0, 0), (3, 0), (5, 0), (6, 1), (9, 1), (10, 2), (15, 2)):
            spoiled = [*THREE[:p], THREE[p] ^ 4, *THREE[p + 1:]]
            self.alike(before_it, [*THREE_DEEDS, flip(p, THREE[p] ^ 4)], spoiled)
        # No kind, with a right check.
        for kind in (0, 6, 255):
            told = written([5, 1], [kind, 1], [5, 2])
            self.alike(1, [mark(1), mark(1), mark(2), *flips(4, told[4:])], told)

    def test_a_log_that_is_not_sound(self):
        self.alike(1, [*THREE_DEEDS, flip(7, 8)], THREE)
        self.alike(0, [*THREE_DEEDS, flip(0, 8)], THREE)
        self.alike(2, [*THREE_DEEDS, flip(15, 8)], THREE)
        # The log's bytes count, not the known deeds: mark 0 is known, but mark 1 is written.
        before = [mark(0), flip(1, 1), flip(3, 8)]
        self.alike(1, before, [5, 1, 6, 8])
        self.alike(0, before, [5, 0, 6, 7])

    def test_more_than_2000_numbers(self):
        self.assertEqual(last(load(*MARKS_500), common(*MARKS_500)), [500])
        for bytes_of in ([*MARKS_500, 5], [0] * 2001, [*THREE, *[0] * 2184]):
            self.refused(-2, THREE_DEEDS, common(*bytes_of))
            self.refused(-2, [*THREE_DEEDS, flip(0, 0)], common(*bytes_of))
            self.refused(-2, [], common(*bytes_of))
        self.assertEqual(last(*THREE_DEEDS, common(*THREE, *[0] * 1984)), [3])

    def test_a_number_that_is_no_byte(self):
        for number in (-1, 256, BIG, -BIG):
            for place in (0, 5, 12, 16):
                self.refused(-2, THREE_DEEDS, common(*THREE[:place], number, *THREE[place:]))
            self.refused(-2, [*THREE_DEEDS, flip(0, 0)], common(*THREE, number))
            self.refused(-2, THREE_DEEDS, common(*[0] * 2199, number))
            self.refused(-2, [], common(number))
        self.alike(0, THREE_DEEDS, [0, 255])

    def test_after_a_compact(self):
        told = written([1, 0, 0, 1], [5, 1], [5, 2])
        self.assertEqual(last(mark(2), push(0, 1), mark(1), COMPACT, common(*told)), [3])


if __name__ == "__main__":
    unittest.main()
