"""[1], [4]: what is asked of values of any kind."""

import unittest

from dutyweeks.checks import are_ascending, is_between, is_integer, is_tuple, plain
from tests.samples import Tuple, is_plain, nested, odd_values


class ChecksTest(unittest.TestCase):
    def test_integers_are_no_bools(self):
        for value in (0, 1, -1, 10 ** 12 - 1):
            self.assertIs(is_integer(value), True)
        for value in (True, False, None, "1", (1,), [1]):
            self.assertIs(is_integer(value), False)

    def test_between_lets_both_bounds(self):
        self.assertEqual([value for value in range(-3, 9) if is_between(value, 2, 5)], [2, 3, 4, 5])
        self.assertIs(is_between(True, 0, 5), False)
        self.assertIs(is_between("3", 0, 5), False)

    def test_tuples_of_so_many(self):
        self.assertEqual([n for n in range(9) if is_tuple((None,) * n, 2, 5)], [2, 3, 4, 5])
        self.assertIs(is_tuple([1, 2, 3], 2, 5), False)
        self.assertIs(is_tuple("abc", 2, 5), False)

    def test_ascending(self):
        for value in ((), (0,), (0, 1), (0, 2, 5)):
            self.assertIs(are_ascending(value, 6), True)
        for value in ((6,), (-1,), (0, 0), (1, 0), (0, 2, 1), (True,), (0, True), [0, 1], (0, None), ("0",)):
            self.assertIs(are_ascending(value, 6), False)
        for value in odd_values():
            self.assertIs(are_ascending(value, 6), False)

    def test_plain(self):
        value = Tuple([1, Tuple(["never", Tuple([0, 1])]), (Tuple(), 2)])
        self.assertEqual(plain(value), (1, ("never", (0, 1)), ((), 2)))
        self.assertTrue(is_plain(plain(value)))
        self.assertEqual(plain(nested(60)), nested(60))


if __name__ == "__main__":
    unittest.main()
