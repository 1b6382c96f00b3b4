"""Point 1: push, pull, shift, clear and mark, and when they're refused."""

import unittest

from helper import (BIG, COUNTS, MARKS, UNDO, RefusalTest, ask, clear, filled, full_to, last, mark, pull, push, record,
                    shelf, shift)


class PushTest(RefusalTest):
    def test_answers_how_many_deeds_are_known(self):
        self.assertEqual(ask(push(0, 5), push(3, 7), push(0, 5)), [[1], [2], [3]])

    def test_puts_the_number_behind_the_others(self):
        self.assertEqual(last(push(2, 9), push(2, 1), push(2, 9), push(3, 4), shelf(2)), [3, 9, 1, 9])

    def test_bytes_at_the_edges_of_v(self):
        for v, high, low in ((0, 0, 0), (255, 0, 255), (256, 1, 0), (258, 1, 2), (65280, 255, 0), (65535, 255, 255)):
            self.assertEqual(ask(push(6, v), shelf(6), record(0)), [[1], [1, v], [1, 6, high, low]])

    def test_too_great_a_number(self):
        for v in (65536, 65537, BIG):
            self.refused(-6, [push(0, 1)], push(0, v))

    def test_shelves_at_the_edges(self):
        self.assertEqual(ask(push(0, 1), push(7, 2), shelf(0), shelf(7)), [[1], [2], [1, 1], [1, 2]])
        for s in (8, 9, 255, 256, BIG):
            self.refused(-6, [push(7, 1)], push(s, 1))

    def test_the_twelfth_and_the_thirteenth(self):
        for s in (0, 7):
            eleven = filled(s, 11)
            self.assertEqual(last(*eleven, push(s, 3)), [12])
            self.assertEqual(last(*eleven, push(s, 3), shelf(s)), [12, *range(100, 111), 3])
            self.refused(-6, [*eleven, push(s, 3)], push(s, 4))

    def test_another_shelf_has_its_own_room(self):
        self.assertEqual(last(*filled(4, 12), push(5, 1)), [13])

    def test_below_0(self):
        for call in (push(-1, 1), push(0, -1), push(-1, -1), push(-BIG, 1), push(0, -BIG)):
            self.refused(-1, [push(0, 1)], call)

    def test_below_0_is_told_ahead_of_what_cannot_be_done(self):
        for call in (push(8, -1), push(-1, 65536), push(BIG, -BIG), push(-BIG, BIG)):
            self.refused(-1, [push(0, 1)], call)
        self.refused(-1, filled(0, 12), push(0, -1))


class PullTest(RefusalTest):
    def test_takes_the_number_at_the_place(self):
        before = [push(1, 10), push(1, 11), push(1, 12)]
        self.assertEqual(ask(*before, pull(1, 0), shelf(1))[3:], [[4], [2, 11, 12]])
        self.assertEqual(ask(*before, pull(1, 1), shelf(1))[3:], [[4], [2, 10, 12]])
        self.assertEqual(ask(*before, pull(1, 2), shelf(1))[3:], [[4], [2, 10, 11]])

    def test_takes_one_of_two_alike(self):
        self.assertEqual(last(push(1, 5), push(1, 6), push(1, 5), pull(1, 2), shelf(1)), [2, 5, 6])

    def test_bytes(self):
        self.assertEqual(last(*filled(7, 12), pull(7, 11), record(12)), [2, 7, 11])

    def test_no_such_place(self):
        for i in (3, 4, 12, BIG):
            self.refused(-6, filled(1, 3), pull(1, i))
        self.refused(-6, [push(0, 1)], pull(1, 0))
        self.refused(-6, filled(1, 12), pull(1, 12))

    def test_no_such_shelf(self):
        for s in (8, 9, BIG):
            self.refused(-6, [push(0, 1), push(7, 1)], pull(s, 0))

    def test_below_0(self):
        for call in (pull(-1, 0), pull(0, -1), pull(-1, -1), pull(-BIG, 0), pull(0, -BIG), pull(8, -1), pull(-1, 1)):
            self.refused(-1, [push(0, 1), push(7, 1)], call)

    def test_makes_room(self):
        self.assertEqual(last(*filled(0, 12), pull(0, 0), push(0, 9), shelf(0)), [12, *range(101, 112), 9])


class ShiftTest(RefusalTest):
    def test_takes_the_number_behind_those_of_the_other(self):
        before = [push(1, 10), push(1, 11), push(1, 12), push(2, 20)]
        self.assertEqual(ask(*before, shift(1, 2, 1), shelf(1), shelf(2))[4:], [[5], [2, 10, 12], [2, 20, 11]])
        self.assertEqual(ask(*before, shift(1, 2, 2), shelf(1), shelf(2))[4:], [[5], [2, 10, 11], [2, 20, 12]])
        self.assertEqual(ask(*before, shift(2, 1, 0), shelf(1), shelf(2))[4:], [[5], [4, 10, 11, 12, 20], [0]])

    def test_bytes(self):
        self.assertEqual(last(*filled(7, 12), shift(7, 0, 11), record(12)), [3, 7, 0, 11])

    def test_the_same_shelf(self):
        self.refused(-6, filled(3, 3), shift(3, 3, 0))
        self.refused(-6, filled(3, 3), shift(3, 3, 2))
        self.refused(-6, filled(3, 12), shift(3, 3, 0))
        self.refused(-6, [], shift(3, 3, 0))

    def test_to_a_full_shelf(self):
        self.assertEqual(ask(push(0, 1), *filled(1, 11), shift(0, 1, 0), shelf(0))[-2:], [[13], [0]])
        self.refused(-6, [push(0, 1), *filled(1, 12)], shift(0, 1, 0))

    def test_from_a_full_shelf(self):
        self.assertEqual(last(*filled(1, 12), shift(1, 0, 3)), [13])

    def test_no_such_place(self):
        for i in (3, 4, BIG):
            self.refused(-6, filled(1, 3), shift(1, 2, i))
        self.refused(-6, [push(2, 1)], shift(1, 2, 0))

    def test_no_such_shelf(self):
        before = [push(0, 1), push(7, 1)]
        for s in (8, BIG):
            for call in (shift(s, 0, 0), shift(0, s, 0), shift(s, s, 0)):
                self.refused(-6, before, call)
        self.assertEqual(last(*before, shift(7, 0, 0), shelf(0)), [2, 1, 1])

    def test_below_0(self):
        for call in (shift(-1, 0, 0), shift(0, -1, 0), shift(0, 1, -1), shift(-BIG, -BIG, -BIG), shift(0, 0, -1),
                     shift(8, -1, 0), shift(-1, 8, 0), shift(8, 8, -1), shift(-1, 0, 99)):
            self.refused(-1, [push(0, 1), push(7, 1)], call)


class ClearTest(RefusalTest):
    def test_empties_the_shelf_alone(self):
        self.assertEqual(ask(*filled(3, 4), push(4, 1), clear(3), shelf(3), shelf(4))[5:], [[6], [0], [1, 1]])

    def test_bytes(self):
        self.assertEqual(last(push(7, 1), clear(7), record(1)), [4, 7])
        self.assertEqual(last(push(0, 1), clear(0), record(1)), [4, 0])

    def test_of_an_empty_shelf(self):
        self.refused(-6, [], clear(0))
        self.refused(-6, [push(0, 1)], clear(1))
        self.refused(-6, [push(0, 1), clear(0)], clear(0))
        self.refused(-6, [push(0, 1), pull(0, 0)], clear(0))

    def test_no_such_shelf(self):
        for s in (8, 9, BIG):
            self.refused(-6, [push(7, 1), push(0, 1)], clear(s))
        for s in (-1, -8, -BIG):
            self.refused(-1, [push(7, 1), push(0, 1)], clear(s))


class MarkTest(RefusalTest):
    def test_sets_a_label(self):
        self.assertEqual(ask(mark(9), MARKS), [[1], [1, 9]])

    def test_edges(self):
        self.assertEqual(ask(mark(0), mark(255), MARKS, record(0), record(1)), [[1], [2], [2, 0, 255], [5, 0], [5, 255]])
        for n in (256, 257, BIG):
            self.refused(-6, [mark(0)], mark(n))
        for n in (-1, -256, -BIG):
            self.refused(-1, [mark(0)], mark(n))

    def test_set_again_is_a_deed_too(self):
        self.assertEqual(ask(mark(4), mark(4), MARKS, record(1), COUNTS)[:4], [[1], [2], [1, 4], [5, 4]])
        self.assertEqual(last(mark(4), mark(4), COUNTS)[:2], [2, 8])


class LogFullTest(RefusalTest):
    def test_just_2000_bytes(self):
        calls = full_to(2000)
        known = len(calls)
        self.assertEqual(last(*calls), [known])
        self.assertEqual(last(*calls, COUNTS)[:2], [known, 2000])
        self.assertEqual(last(*calls, COUNTS)[3], 1)

    def test_one_deed_more(self):
        calls = full_to(2000)
        holder, other = (0, 1) if last(*calls, shelf(0))[0] == 1 else (1, 0)
        for call in (push(0, 1), push(7, 65535), pull(holder, 0), shift(holder, other, 0), clear(holder), mark(1), mark(2)):
            self.refused(-7, calls, call)

    def test_each_record_counts_with_its_own_bytes(self):
        holder, other = (0, 1) if last(*full_to(1996), shelf(0))[0] == 1 else (1, 0)
        for call in (push(0, 1), pull(holder, 0), shift(holder, other, 0)):
            self.refused(-7, full_to(1996), call)
        self.assertEqual(last(*full_to(1996), mark(3), COUNTS)[1], 2000)
        self.assertEqual(last(*full_to(1996), clear(holder), COUNTS)[1], 2000)
        self.assertEqual(last(*full_to(1994), push(0, 1), COUNTS)[1], 2000)
        for call in (mark(3), clear(1 if last(*full_to(1998), shelf(1))[0] else 0)):
            self.refused(-7, full_to(1998), call)

    def test_a_pull_up_to_the_end(self):
        before = full_to(1990)
        holder = 0 if last(*before, shelf(0))[0] == 1 else 1
        self.assertEqual(last(*before, pull(holder, 0), COUNTS)[1], 1995)
        # A label's record comes to 1999 bytes, and no record is short enough to follow.
        self.refused(-7, [*before, pull(holder, 0), mark(1)], mark(1))

    def test_other_refusals_come_first(self):
        calls = full_to(2000)
        for call in (push(0, 65536), push(8, 1), pull(7, 0), shift(0, 0, 0), clear(7), mark(256)):
            self.refused(-6, calls, call)
        for call in (push(0, -1), push(-1, 65536), pull(8, -1), shift(0, 0, -1), clear(-1), mark(-1)):
            self.refused(-1, calls, call)

    def test_goes_on_after_an_undo(self):
        self.assertEqual(ask(*full_to(2000), mark(1), UNDO, mark(9), mark(9), COUNTS)[-3:-1], [[len(full_to(2000))], [-7]])


if __name__ == "__main__":
    unittest.main()
