"""Points 6 and 7: at and since."""

import unittest

from helper import (BIG, COMPACT, COUNTS, MARKS_500, MEND, THREE, THREE_DEEDS, UNDO, RefusalTest, ask, at, clear, cut,
                    filled, flip, last, load, mark, pull, push, shelf, shift, since)

# What shelf 0 and shelf 1 hold after each number of these deeds.
DEEDS = [push(0, 10), push(0, 11), mark(3), push(1, 20), shift(0, 1, 0), pull(1, 0), clear(0), push(0, 65535)]
ON_0 = [[0], [1, 10], [2, 10, 11], [2, 10, 11], [2, 10, 11], [1, 11], [1, 11], [0], [1, 65535]]
ON_1 = [[0], [0], [0], [0], [1, 20], [2, 20, 10], [1, 10], [1, 10], [1, 10]]


class AtTest(RefusalTest):
    def test_after_each_number_of_deeds(self):
        self.assertEqual(ask(*DEEDS, *[at(n, 0) for n in range(9)])[8:], ON_0)
        self.assertEqual(ask(*DEEDS, *[at(n, 1) for n in range(9)])[8:], ON_1)

    def test_all_known_deeds_are_the_shelf_itself(self):
        for s in range(8):
            calls = [*filled(s, 12), pull(s, 5)]
            self.assertEqual(last(*calls, at(13, s)), last(*calls, shelf(s)))
            self.assertEqual(last(*calls, at(12, s)), [12, *range(100, 112)])
            self.assertEqual(last(*calls, at(0, s)), [0])

    def test_n_at_its_edges(self):
        for n in (-1, 9, 10, BIG, -BIG):
            self.refused(-1, DEEDS, at(n, 0))
        self.assertEqual(last(at(0, 0)), [0])
        self.refused(-1, [], at(1, 0))
        self.refused(-1, [], at(-1, 0))

    def test_s_at_its_edges(self):
        calls = [push(7, 5), push(0, 4)]
        self.assertEqual(ask(*calls, at(2, 0), at(2, 7))[2:], [[1, 4], [1, 5]])
        for s in (-1, -8, 8, 9, BIG, -BIG):
            for n in (-1, 0, 2, 3):
                self.refused(-1, calls, at(n, s))

    def test_an_undone_deed_is_not_known(self):
        self.assertEqual(ask(*DEEDS, UNDO, at(7, 0), at(8, 0))[9:], [[0], [-1]])

    def test_after_a_load(self):
        calls = [push(0, 9), push(0, 9), push(0, 9), push(0, 9), load(*THREE)]
        self.assertEqual(ask(*calls, at(0, 0), at(1, 0), at(3, 0), at(4, 0))[5:], [[0], [1, 5], [1, 5], [-1]])
        self.assertEqual(ask(*calls, at(2, 3), at(3, 3))[5:], [[0], [1, 258]])

    def test_after_a_compact(self):
        # Shelf 0 holds 65535, shelf 1 holds 10, and the label 3 is set: three deeds are known.
        told = ask(*DEEDS, COMPACT, *[at(n, 0) for n in range(5)], *[at(n, 1) for n in range(5)])[9:]
        self.assertEqual(told, [[0], [1, 65535], [1, 65535], [1, 65535], [-1], [0], [0], [1, 10], [1, 10], [-1]])

    def test_after_a_cut(self):
        self.assertEqual(ask(*THREE_DEEDS, cut(10), at(2, 0), at(2, 3), at(3, 3))[4:], [[1, 5], [0], [-1]])

    def test_goes_by_the_known_deeds_where_the_log_is_not_sound(self):
        self.assertEqual(ask(*THREE_DEEDS, flip(3, 6), at(1, 0), at(3, 3), at(4, 3))[4:], [[1, 5], [1, 258], [-1]])
        self.assertEqual(ask(*THREE_DEEDS, flip(3, 6), MEND, at(0, 0), at(1, 0))[5:], [[0], [-1]])

    def test_nothing_is_changed(self):
        self.unchanged(DEEDS, at(0, 0), at(4, 1), at(8, 7))
        self.assertEqual(ask(*DEEDS, at(2, 0), push(0, 1), at(8, 0), at(9, 0))[9:], [[9], [1, 65535], [2, 65535, 1]])


class SinceTest(RefusalTest):
    def test_by_the_last_deed(self):
        self.assertEqual(last(push(0, 1), mark(9), since(9)), [0])
        self.assertEqual(last(mark(9), since(9)), [0])

    def test_by_the_first(self):
        self.assertEqual(last(mark(9), push(0, 9), push(0, 1), clear(0), since(9)), [3])

    def test_twice(self):
        self.assertEqual(last(mark(9), push(0, 1), mark(9), push(0, 2), mark(8), since(9)), [2])
        self.assertEqual(last(mark(9), mark(9), since(9)), [0])

    def test_never(self):
        self.refused(-6, [], since(9))
        self.refused(-6, [push(0, 9), push(0, 2), pull(0, 1), mark(8), push(5, 9), clear(5)], since(9))
        self.refused(-6, [mark(9), UNDO], since(9))

    def test_n_at_its_edges(self):
        calls = [mark(0), mark(255), push(0, 1)]
        self.assertEqual(ask(*calls, since(0), since(255))[3:], [[2], [1]])
        self.refused(-6, [mark(1), push(0, 0)], since(0))
        self.refused(-6, [mark(1), push(0, 0)], since(255))
        for n in (-1, -5, 256, 257, BIG, -BIG):
            self.refused(-1, calls, since(n))
            self.refused(-1, [], since(n))

    def test_other_deeds_with_the_same_numbers_set_no_label(self):
        # Behind the label stand deeds whose shelves, numbers and places are that label's number.
        calls = [mark(1), push(1, 1), push(1, 1), pull(1, 1), clear(1), push(1, 5), push(5, 1), shift(1, 5, 0)]
        self.assertEqual(last(*calls, since(1)), [7])

    def test_an_undone_label_goes_back_to_the_one_before(self):
        self.assertEqual(ask(mark(4), push(0, 1), mark(4), UNDO, since(4))[4:], [[1]])

    def test_after_a_load(self):
        self.assertEqual(ask(mark(9), load(*THREE), since(7), since(9))[2:], [[1], [-6]])
        self.assertEqual(last(load(*MARKS_500), since(0)), [243])

    def test_after_a_compact(self):
        calls = [mark(200), mark(3), mark(20), mark(200), push(0, 1), COMPACT]
        told = ask(*calls, since(3), since(20), since(200), since(4))[6:]
        self.assertEqual(told, [[2], [1], [0], [-6]])

    def test_goes_by_the_known_deeds_where_the_log_is_not_sound(self):
        # The byte 7 of the label is another one, in the log alone.
        self.assertEqual(ask(*THREE_DEEDS, flip(7, 8), since(7), since(8))[4:], [[1], [-6]])
        self.assertEqual(ask(*THREE_DEEDS, flip(7, 8), MEND, since(7), COUNTS)[5:], [[-6], [1, 6, 10099, 1]])

    def test_nothing_is_changed(self):
        self.unchanged([mark(9), push(0, 1)], since(9), since(8), since(-1))


if __name__ == "__main__":
    unittest.main()
