"""[1], [4]: what is asked of values of any kind."""

import unittest

from dutyweeks.checks import are_ascending, is_between, is_integer, is_ratio, is_same, is_tuple, lowest, plain, rises
from tests.samples import Tuple, changed, is_plain, nested, odd_values, own


class ChecksTest(unittest.TestCase):
    def test_integers_are_no_bools(self):
        for value in (0, 1, -1, 10 ** 12 - 1):
            self.assertIs(is_integer(value), True)
        for value in (True, False, None, "1", (1,), [1]):
            self.assertIs(is_integer(value), False)

    def test_between_lets_both_bounds(self):
        self.assertEqual([value for value in range(-3, 9) if is_between(value, 2, 5)], [2, 3, 4, 5])
        self.assertIs(is_between(True, 0, 5), False)
        self.assertIs(is_between("3", 0, 5), False)

    def test_tuples_of_so_many(self):
        self.assertEqual([n for n in range(9) if is_tuple((None,) * n, 2, 5)], [2, 3, 4, 5])
        self.assertIs(is_tuple([1, 2, 3], 2, 5), False)
        self.assertIs(is_tuple("abc", 2, 5), False)

    def test_ascending(self):
        for value in ((), (0,), (0, 1), (0, 2, 5)):
            self.assertIs(are_ascending(value, 6), True)
        for value in ((6,), (-1,), (0, 0), (1, 0), (0, 2, 1), (True,), (0, True), [0, 1], (0, None), ("0",)):
            self.assertIs(are_ascending(value, 6), False)
        for value in odd_values():
            self.assertIs(are_ascending(value, 6), False)

    def test_rises(self):
        for values in ((), [], (3,), (0, 1, 5), [(0, (1,)), (0, (2,)), (1, (0,))], ("rule", "want")):
            self.assertIs(rises(values), True)
        for values in ((1, 0), (0, 0), (0, 2, 1), [(0, (1,)), (0, (1,))], ("want", "rule")):
            self.assertIs(rises(values), False)

    def test_ratios(self):
        for value in ((0, 1), (1, 1), (-3, 2), (7, 3), (10 ** 11, 10 ** 11 - 1), (5, 1)):
            self.assertIs(is_ratio(value), True)
        for value in ((0, 2), (2, 2), (4, 6), (-4, 6), (1, 0), (0, 0), (1, -1), (3, -2), (1,), (), (1, 1, 1), [1, 1],
                      (True, 1), (1, True), (None, 1), (1, None), ("1", 1), ((1,), 1)):
            self.assertIs(is_ratio(value), False)
        for value in odd_values():
            self.assertIs(is_ratio(value), False)

    def test_lowest(self):
        for a in range(-9, 10):
            for b in range(1, 10):
                self.assertIs(is_ratio(lowest(a, b)), True)
                self.assertEqual(lowest(a, b)[0] * b, a * lowest(a, b)[1])
        self.assertEqual(lowest(0, 7), (0, 1))

    def test_plain(self):
        value = Tuple([1, Tuple(["never", Tuple([0, 1])]), (Tuple(), 2)])
        self.assertEqual(plain(value), (1, ("never", (0, 1)), ((), 2)))
        self.assertTrue(is_plain(plain(value)))
        self.assertEqual(plain(nested(60)), nested(60))

    def test_same(self):
        told = ("cell", 3, ((0, 1, 1),), 0, 1)
        for value in (told, own(told), ("cell", 3, Tuple(told[2]), 0, 1)):
            self.assertIs(is_same(value, told), True)
        for value in list(changed(told)) + odd_values() + [list(told), ("cell", 3, ([0, 1, 1],), 0, 1)]:
            self.assertIs(is_same(value, told), repr(value) == repr(told))
        for value in (True, False, None, "", [], ()):
            self.assertIs(is_same(value, 1), False)
            self.assertIs(is_same(value, 0), False)
            self.assertIs(is_same(value, ()), value == ())
        self.assertIs(is_same((0,) * 30000, told), False)


if __name__ == "__main__":
    unittest.main()
