"""deedslog.log.answers: how calls are handed in, and answers given back."""

import unittest

from deedslog.log import answers
from helper import THREE, CallsTest

# All twenty calls, some of them refused.
CALLS = [0, 0, 300, 0, 0, 7, 2, 0, 3, 1, 1, 0, 0, 4, 9, 3, 3, 5, 6, 3, 6, 8, 7, 8, 9, 0, 9, 9, 5, 0, -1, 8,
         10, 1, 0, 11, 9, 12, 13, 0, 0, 15, 14, 6, 17, 16, *THREE, 18, 10, *THREE[:10], 13, 3, 6, 16, 17, 1, 256, 17, 0,
         4, 8, 4, 7, 4, 8, 19, 12, 18, 2, 5, 7]
TOLD = [1, 1, 1, 2, 1, 3, 1, 4, 1, 5, 1, 6, 1, 5, 2, 1, 7, 1, -1, 2, 1, 9, 4, 5, 27]


class Watched(list):
    """A list that can only be read."""

    def refuse(self, *args, **kwargs):
        raise AssertionError("the list handed in was changed")

    append = extend = insert = pop = remove = clear = sort = reverse = refuse
    __setitem__ = __delitem__ = __iadd__ = __imul__ = refuse


class InterfaceTest(CallsTest):
    def test_calls_one_behind_another(self):
        self.assertEqual(answers(CALLS)[:len(TOLD)], TOLD)

    def test_numbers_of_the_calls(self):
        self.assertEqual(answers([0, 0, 300]), [1, 1])
        self.assertEqual(answers([0, 0, 300, 1, 0, 0]), [1, 1, 1, 2])
        self.assertEqual(answers([0, 0, 300, 2, 0, 1, 0]), [1, 1, 1, 2])
        self.assertEqual(answers([0, 0, 300, 3, 0]), [1, 1, 1, 2])
        self.assertEqual(answers([4, 255]), [1, 1])
        self.assertEqual(answers([5]), [1, -6])
        self.assertEqual(answers([6, 0]), [1, 0])
        self.assertEqual(answers([7]), [1, 0])
        self.assertEqual(answers([8]), [4, 0, 0, 0, 1])
        self.assertEqual(answers([9, 0]), [1, -1])
        self.assertEqual(answers([10, 0, 0]), [1, 0])
        self.assertEqual(answers([11, 0]), [1, -6])
        self.assertEqual(answers([12]), [1, 0])
        self.assertEqual(answers([13, 0, 0]), [1, -1])
        self.assertEqual(answers([14, 0]), [2, 0, 0])
        self.assertEqual(answers([15]), [3, 0, 0, 0])
        self.assertEqual(answers([16]), [2, 0, 0])
        self.assertEqual(answers([17, 0]), [2, 0, 0])
        self.assertEqual(answers([18, 0]), [1, 0])
        self.assertEqual(answers([19]), [2, 0, 0])

    def test_how_many_numbers_are_answered(self):
        self.assertEqual(answers([0, 5, 300, 6, 5]), [1, 1, 2, 1, 300])
        self.assertEqual(answers([4, 2, 4, 1, 7]), [1, 1, 1, 2, 3, 2, 1, 2])
        self.assertEqual(answers([0, 5, 300, 9, 0]), [1, 1, 4, 1, 5, 1, 44])
        self.assertEqual(answers([4, 2, 9, 0]), [1, 1, 2, 5, 2])
        self.assertEqual(answers([0, 5, 300, 10, 1, 5]), [1, 1, 2, 1, 300])
        self.assertEqual(answers([4, 2, 11, 2]), [1, 1, 1, 0])
        # mark 0 has the check 257 * 6 + 0 + 1 = 1543 = 6 * 256 + 7.
        self.assertEqual(answers([4, 0, 12]), [1, 1, 5, 4, 5, 0, 6, 7])
        self.assertEqual(answers([4, 0, 13, 2, 255]), [1, 1, 1, 6])
        self.assertEqual(answers([4, 0, 14, 4]), [1, 1, 2, 1, 4])
        self.assertEqual(answers([4, 0, 15]), [1, 1, 3, 1, 4, 4])
        self.assertEqual(answers([4, 0, 16]), [1, 1, 2, 1, 4])
        self.assertEqual(answers([4, 0, 19]), [1, 1, 2, 4, 4])

    def test_a_row_stands_behind_how_many_numbers_it_has(self):
        self.assertEqual(answers([17, 4, 5, 0, 6, 7, 7]), [2, 1, 4, 2, 1, 0])
        self.assertEqual(answers([17, 5, 5, 0, 6, 7, 7, 7]), [2, 1, 4, 2, 1, 0])
        self.assertEqual(answers([17, 3, 5, 0, 6, 7]), [2, 0, 0, 1, 0])
        self.assertEqual(answers([17, 0, 7]), [2, 0, 0, 1, 0])
        self.assertEqual(answers([4, 0, 18, 4, 5, 0, 6, 7, 7]), [1, 1, 1, 1, 2, 1, 0])
        self.assertEqual(answers([4, 0, 18, 0, 7]), [1, 1, 1, 0, 2, 1, 0])

    def test_a_refused_row_is_passed_over_whole(self):
        for number in (17, 18):
            self.assertEqual(answers([number, 3, 17, -1, 18, 7]), [1, -2, 1, 0])
            self.assertEqual(answers([number, 2001, *[17] * 2001, 7]), [1, -2, 1, 0])
            self.assertEqual(answers([number, 2200, *[10 ** 18] * 2200, 7]), [1, -2, 1, 0])

    def test_every_call_at_the_ends_of_the_range(self):
        for edge, number in ((10 ** 18, -6), (-10 ** 18, -1)):
            deeds = [0, edge, edge, 1, edge, edge, 2, edge, edge, edge, 3, edge, 4, edge]
            self.assertEqual(answers(deeds), [1, number] * 5)
            others = [6, edge, 9, edge, 10, edge, edge, 11, edge, 13, edge, edge, 14, edge]
            self.assertEqual(answers(others), [1, -1] * 6)
            self.assertEqual(answers([17, 1, edge, 18, 1, edge]), [1, -2] * 2)

    def test_400_calls(self):
        self.assertEqual(answers([4, 1, 5] * 200), [1, 1, 1, 0] * 200)
        self.assertEqual(len(answers([0, 0, 1] * 12 + [6, 0] * 388)), 12 * 2 + 388 * 14)

    def test_a_line_with_many_numbers_told(self):
        loaded = [17, 2000] + [5, 0, 6, 7] * 500
        # Only the first of these is a right record; 400 calls go by.
        self.assertEqual(answers(loaded + [12] * 399), [2, 1, 4] + [5, 4, 5, 0, 6, 7] * 399)

    def test_17000_numbers_handed_in(self):
        row = THREE + [0] * 1984
        calls = [17, 2000, *row, 18, 2000, *row] * 4 + [17, 973, *row[:973], 12]
        self.assertEqual(len(calls), 16992)
        self.assertEqual(answers(calls), [2, 3, 16, 1, 3] * 4 + [2, 3, 16, 17, 16, *THREE])

    def test_what_is_handed_in_is_not_changed(self):
        handed = Watched(CALLS)
        answers(handed)
        self.assertEqual(list(handed), CALLS)
        plain = list(CALLS)
        answers(plain)
        self.assertEqual(plain, CALLS)

    def test_nothing_is_kept(self):
        first = answers(CALLS)
        self.assertEqual(answers(CALLS), first)
        answers([4, 200, 0, 1, 1, 13, 0, 0, 17, 4, 5, 0, 6, 7])
        self.assertEqual(answers(CALLS), first)
        first.clear()
        self.assertEqual(answers(CALLS)[:len(TOLD)], TOLD)

    def test_plain_whole_numbers_in_a_plain_list(self):
        told = answers(CALLS)
        self.assertIs(type(told), list)
        self.assertEqual({type(number) for number in told}, {int})

    def test_every_answer_begins_with_0_or_more_or_is_a_refusal_alone(self):
        told = answers(CALLS)
        refusals = 0
        place = 0
        while place < len(told):
            self.assertGreaterEqual(told[place], 1)
            self.assertTrue(told[place + 1] >= 0 or told[place] == 1)
            refusals += told[place + 1] < 0
            place += 1 + told[place]
        self.assertEqual(place, len(told))
        # shelf 8, record 9, push -1 8, since 9 and the load of a 256.
        self.assertEqual(refusals, 5)


if __name__ == "__main__":
    unittest.main()
