"""Fractions by themselves."""

import unittest
from fractions import Fraction

from costhedge.ratio import counted_bytes, greater, less, lesser, minus, over, plus, ratio, text_bytes, times

VALUES = [Fraction(top, bottom) for top in (-9, -4, -1, 0, 1, 2, 6, 10 ** 30 + 1) for bottom in (1, 2, 3, 4, 10 ** 20)]


def pair(value):
    return (value.numerator, value.denominator)


class Ratio(unittest.TestCase):
    def test_lowest_terms(self):
        for top, bottom, expected in ((6, 4, (3, 2)), (-6, 4, (-3, 2)), (0, 7, (0, 1)), (5, 5, (1, 1)), (-8, 2, (-4, 1)),
                                      (7, 1, (7, 1)), (3, 9, (1, 3)), (6 * 10 ** 40, 9 * 10 ** 40, (2, 3))):
            self.assertEqual(ratio(top, bottom), expected)

    def test_reckoning(self):
        for x in VALUES:
            for y in VALUES:
                self.assertEqual(plus(pair(x), pair(y)), pair(x + y))
                self.assertEqual(minus(pair(x), pair(y)), pair(x - y))
                self.assertEqual(times(pair(x), pair(y)), pair(x * y))
                self.assertEqual(less(pair(x), pair(y)), x < y)
                self.assertEqual(lesser(pair(x), pair(y)), pair(min(x, y)))
                self.assertEqual(greater(pair(x), pair(y)), pair(max(x, y)))
                if y > 0:
                    self.assertEqual(over(pair(x), pair(y)), pair(x / y))

    def test_texts(self):
        for top, bottom, expected in ((-3, 4, "-3/4"), (0, 5, "0/1"), (12, 1, "12/1"), (10, 4, "5/2"),
                                      (-10 ** 25, 3, "-10000000000000000000000000/3")):
            self.assertEqual(bytes(text_bytes(ratio(top, bottom))).decode("ascii"), expected)
            self.assertEqual(counted_bytes(ratio(top, bottom)), [len(expected)] + list(expected.encode("ascii")))


if __name__ == "__main__":
    unittest.main()
