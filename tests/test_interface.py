"""deedslog.log.answers: how calls are handed in, and answers given back."""

import unittest

from deedslog.log import answers

CALLS = [0, 0, 300, 0, 0, 7, 2, 0, 3, 1, 1, 0, 0, 4, 9, 3, 3, 5, 6, 3, 6, 8, 7, 8, 9, 0, 9, 9, 5, 0, -1, 8]
TOLD = [1, 1, 1, 2, 1, 3, 1, 4, 1, 5, 1, 6, 1, 5, 2, 1, 7, 1, -1, 2, 1, 9, 4, 5, 27]


class Watched(list):
    """A list that can only be read."""

    def refuse(self, *args, **kwargs):
        raise AssertionError("the list handed in was changed")

    append = extend = insert = pop = remove = clear = sort = reverse = refuse
    __setitem__ = __delitem__ = __iadd__ = __imul__ = refuse


class InterfaceTest(unittest.TestCase):
    def test_calls_one_behind_another(self):
        self.assertEqual(answers(CALLS)[:len(TOLD)], TOLD)

    def test_numbers_of_the_calls(self):
        self.assertEqual(answers([0, 0, 300]), [1, 1])
        self.assertEqual(answers([0, 0, 300, 1, 0, 0]), [1, 1, 1, 2])
        self.assertEqual(answers([0, 0, 300, 2, 0, 1, 0]), [1, 1, 1, 2])
        self.assertEqual(answers([0, 0, 300, 3, 0]), [1, 1, 1, 2])
        self.assertEqual(answers([4, 255]), [1, 1])
        self.assertEqual(answers([5]), [1, -6])
        self.assertEqual(answers([6, 0]), [1, 0])
        self.assertEqual(answers([7]), [1, 0])
        self.assertEqual(answers([8]), [4, 0, 0, 0, 1])
        self.assertEqual(answers([9, 0]), [1, -1])

    def test_how_many_numbers_are_answered(self):
        self.assertEqual(answers([0, 5, 300, 6, 5]), [1, 1, 2, 1, 300])
        self.assertEqual(answers([4, 2, 4, 1, 7]), [1, 1, 1, 2, 3, 2, 1, 2])
        self.assertEqual(answers([0, 5, 300, 9, 0]), [1, 1, 4, 1, 5, 1, 44])
        self.assertEqual(answers([4, 2, 9, 0]), [1, 1, 2, 5, 2])

    def test_every_call_at_the_ends_of_the_range(self):
        for edge, number in ((10 ** 18, -6), (-10 ** 18, -1)):
            self.assertEqual(answers([0, edge, edge, 1, edge, edge, 2, edge, edge, edge, 3, edge, 4, edge]), [1, number] * 5)
            self.assertEqual(answers([6, edge, 9, edge]), [1, -1] * 2)

    def test_400_calls(self):
        self.assertEqual(answers([4, 1, 5] * 200), [1, 1, 1, 0] * 200)
        self.assertEqual(len(answers([0, 0, 1] * 12 + [6, 0] * 388)), 12 * 2 + 388 * 14)

    def test_what_is_handed_in_is_not_changed(self):
        handed = Watched(CALLS)
        answers(handed)
        self.assertEqual(list(handed), CALLS)
        plain = list(CALLS)
        answers(plain)
        self.assertEqual(plain, CALLS)

    def test_nothing_is_kept(self):
        first = answers(CALLS)
        self.assertEqual(answers(CALLS), first)
        answers([4, 200, 0, 1, 1])
        self.assertEqual(answers(CALLS), first)
        first.clear()
        self.assertEqual(answers(CALLS)[:len(TOLD)], TOLD)

    def test_plain_whole_numbers_in_a_plain_list(self):
        told = answers(CALLS)
        self.assertIs(type(told), list)
        self.assertEqual({type(number) for number in told}, {int})


if __name__ == "__main__":
    unittest.main()
