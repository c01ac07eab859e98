import unittest
from fractions import Fraction

from gapweave.fractions import less_than, lowest, plus, times

LONG = 10 ** 39 + 7
SAMPLES = [
    (0, 1), (0, 999), (1, 1), (-1, 1), (6, 4), (-6, 4), (3, 9), (-3, 9), (7, 1), (-7, 7),
    (998, 999), (999, 998), (LONG, 999), (-LONG, 998), (LONG * 6, 4), (-LONG * 12, 18), (1, 999),
]


def as_told(value):
    return (value.numerator, value.denominator)


class Point4Lowest(unittest.TestCase):
    def test_told_in_lowest_terms(self):
        self.assertEqual(lowest((6, 4)), (3, 2))
        self.assertEqual(lowest((4, 6)), (2, 3))
        self.assertEqual(lowest((12, 4)), (3, 1))
        self.assertEqual(lowest((3, 4)), (3, 4))
        self.assertEqual(lowest((5, 1)), (5, 1))

    def test_nought(self):
        self.assertEqual(lowest((0, 1)), (0, 1))
        self.assertEqual(lowest((0, 12)), (0, 1))

    def test_below_nought(self):
        self.assertEqual(lowest((-6, 4)), (-3, 2))
        self.assertEqual(lowest((-4, 4)), (-1, 1))
        self.assertEqual(lowest((-1, 3)), (-1, 3))

    def test_some_forty_figures(self):
        self.assertEqual(lowest((LONG * 6, 4)), (LONG * 3, 2))
        self.assertEqual(lowest((-LONG * 6, 4)), (-LONG * 3, 2))
        self.assertEqual(lowest((LONG * 4, LONG * 6)), (2, 3))

    def test_a_tuple_is_told(self):
        self.assertIsInstance(lowest((6, 4)), tuple)
        self.assertIsInstance(plus((6, 4), (1, 2)), tuple)
        self.assertIsInstance(times((6, 4), 2), tuple)

    def test_against_reckoning_by_another_way(self):
        for over in range(-30, 31):
            for under in range(1, 31):
                self.assertEqual(lowest((over, under)), as_told(Fraction(over, under)))


class Point4Reckoning(unittest.TestCase):
    def test_plus(self):
        self.assertEqual(plus((1, 2), (1, 3)), (5, 6))
        self.assertEqual(plus((1, 6), (1, 3)), (1, 2))
        self.assertEqual(plus((2, 4), (-1, 2)), (0, 1))
        self.assertEqual(plus((0, 5), (0, 7)), (0, 1))
        self.assertEqual(plus((-3, 4), (1, 4)), (-1, 2))
        self.assertEqual(plus((LONG, 3), (LONG, 6)), (LONG, 2))

    def test_times(self):
        self.assertEqual(times((3, 4), 2), (3, 2))
        self.assertEqual(times((6, 8), 1), (3, 4))
        self.assertEqual(times((3, 4), 0), (0, 1))
        self.assertEqual(times((3, 4), -4), (-3, 1))
        self.assertEqual(times((-3, 4), -2), (3, 2))
        self.assertEqual(times((0, 4), -2), (0, 1))
        self.assertEqual(times((1, 6), LONG * 3), as_told(Fraction(LONG, 2)))

    def test_less_than(self):
        self.assertIs(less_than((1, 3), (1, 2)), True)
        self.assertIs(less_than((1, 2), (1, 3)), False)
        self.assertIs(less_than((1, 2), (2, 4)), False)
        self.assertIs(less_than((2, 4), (1, 2)), False)
        self.assertIs(less_than((0, 3), (0, 9)), False)
        self.assertIs(less_than((-1, 2), (-1, 3)), True)
        self.assertIs(less_than((-1, 3), (-1, 2)), False)
        self.assertIs(less_than((-1, 2), (0, 1)), True)

    def test_less_than_by_one_in_forty_figures(self):
        self.assertIs(less_than((LONG, 999), (LONG + 1, 999)), True)
        self.assertIs(less_than((LONG + 1, 999), (LONG, 999)), False)
        self.assertIs(less_than((-LONG - 1, 7), (-LONG, 7)), True)
        self.assertIs(less_than((LONG, 7), (LONG, 7)), False)

    def test_against_reckoning_by_another_way(self):
        for one in SAMPLES:
            for number in (0, 1, -1, 2, -6, 18, LONG, -LONG):
                self.assertEqual(times(one, number), as_told(Fraction(*one) * number))
            for other in SAMPLES:
                self.assertEqual(plus(one, other), as_told(Fraction(*one) + Fraction(*other)))
                self.assertIs(less_than(one, other), Fraction(*one) < Fraction(*other))


if __name__ == "__main__":
    unittest.main()
