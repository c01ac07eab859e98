import random
import unittest

from gapweave.cheapest import cheapest
from gapweave.halving import halved, place_at
from gapweave.layings import end_of
from gapweave.prices import Prices
from plain import (
    PRICE_KINDS, cheapest_by_table, few_calls_deep, large_prices, refusal, rows_up_to, some_prices, some_row)

EVEN = Prices("xy", [[(0, 1), (5, 1)], [(5, 1), (0, 1)]], (3, 1), (1, 1))
NOUGHT = PRICE_KINDS["nought"]


def first_places(prices, first, second):
    """For each number of signs of the first row the first place of the cheapest laying with so many behind."""
    _, begin, moves = cheapest_by_table(prices, first, second, "whole")[0]
    places = {}
    for many in range(len(moves) + 1):
        place = end_of(prices, first, second, begin, moves[:many])
        places.setdefault(place[0], place)
    return [places[used] for used in range(len(first) + 1)]


def some_rows(source, most):
    signs = source.choice(("x", "xy", "xyz"))
    prices = some_prices(source, signs)
    first, second = (some_row(source, signs, source.randint(0, most)) for _ in range(2))
    return prices, first, second


class Point15Places(unittest.TestCase):
    def check(self, prices, first, second):
        told = [place_at(prices, first, second, used) for used in range(len(first) + 1)]
        self.assertEqual(told, first_places(prices, first, second))

    def test_short_rows_and_all_kinds_of_prices(self):
        short = rows_up_to("xy", 2) + ["xyx", "yyx", "xxx"]
        for kind, prices in PRICE_KINDS.items():
            for first in short:
                for second in short:
                    with self.subTest(kind=kind, first=first, second=second):
                        self.check(prices, first, second)

    def test_some_longer_rows(self):
        source = random.Random(21)
        for _ in range(60):
            self.check(*some_rows(source, 10))

    def test_rows_of_forty_signs(self):
        source = random.Random(22)
        self.check(some_prices(source, "xy"), some_row(source, "xy", 40), some_row(source, "xy", 40))
        self.check(EVEN, "xy" * 20, "yyx" * 13)
        prices = large_prices()
        self.check(prices, some_row(source, prices.signs, 40), some_row(source, prices.signs, 40))

    def test_the_first_of_several_places(self):
        # The laying is bbp: it goes through (0, 0), (0, 1), (0, 2) and (1, 3).
        self.assertEqual(cheapest(EVEN, "y", "xxy")[2], "bbp")
        self.assertEqual(place_at(EVEN, "y", "xxy", 0), (0, 0))
        self.assertEqual(place_at(EVEN, "y", "xxy", 1), (1, 3))
        # The laying is pbb: it comes to (1, 1) first.
        self.assertEqual(cheapest(EVEN, "x", "xyy")[2], "pbb")
        self.assertEqual(place_at(EVEN, "x", "xyy", 1), (1, 1))

    def test_the_first_of_several_layings(self):
        self.assertEqual([place_at(NOUGHT, "xxx", "xx", used) for used in range(4)], [(0, 0), (1, 1), (2, 2), (3, 2)])
        self.assertEqual([place_at(NOUGHT, "xx", "xxx", used) for used in range(3)], [(0, 0), (1, 1), (2, 2)])

    def test_empty_rows(self):
        self.assertEqual(place_at(EVEN, "", "", 0), (0, 0))
        self.assertEqual(place_at(EVEN, "", "xy", 0), (0, 0))
        self.assertEqual([place_at(EVEN, "xy", "", used) for used in range(3)], [(0, 0), (1, 0), (2, 0)])

    def test_a_tuple_of_whole_numbers(self):
        told = place_at(EVEN, "xyx", "yx", 2)
        self.assertIs(type(told), tuple)
        self.assertEqual([type(number) for number in told], [int, int])

    def test_no_place(self):
        for used in (-1, -2, -99, 4, 5, 99, 10 ** 5000, -10 ** 5000):
            self.assertEqual(refusal(lambda: place_at(EVEN, "xyx", "xyxyxy", used)), ("NoPlace", {}))
        for used in (-1, 1):
            self.assertEqual(refusal(lambda: place_at(EVEN, "", "xyx", used)), ("NoPlace", {}))

    def test_no_sign_ahead_of_no_place(self):
        for used in (-1, 0, 1, 9):
            self.assertEqual(
                refusal(lambda: place_at(EVEN, "xz", "yz", used)), ("NoSign", {"row": 0, "place": 1}))
            self.assertEqual(
                refusal(lambda: place_at(EVEN, "x", "xyz", used)), ("NoSign", {"row": 1, "place": 2}))


class Point16Halved(unittest.TestCase):
    def check(self, prices, first, second):
        told = halved(prices, first, second)
        self.assertEqual(told, cheapest(prices, first, second, "whole"))
        self.assertEqual([type(thing) for thing in told], [tuple, tuple, str])

    def test_short_rows_and_all_kinds_of_prices(self):
        for kind, prices in PRICE_KINDS.items():
            for first in rows_up_to("xy", 3):
                for second in rows_up_to("xy", 3):
                    with self.subTest(kind=kind, first=first, second=second):
                        self.check(prices, first, second)

    def test_some_rows_with_equal_costs_in_plenty(self):
        source = random.Random(23)
        for _ in range(300):
            self.check(*some_rows(source, 12))

    def test_each_length_up_to_forty(self):
        source = random.Random(24)
        for many in range(41):
            prices = some_prices(source, "xy", -1, 1, (1,))
            self.check(prices, some_row(source, "xy", many), some_row(source, "xy", source.randint(0, 40)))
            self.check(prices, some_row(source, "xy", source.randint(0, 40)), some_row(source, "xy", many))
            self.check(NOUGHT, "x" * many, "x" * 40)
            self.check(NOUGHT, "x" * 40, "x" * many)

    def test_at_the_bounds(self):
        source = random.Random(25)
        prices = large_prices()
        for _ in range(3):
            self.check(prices, some_row(source, prices.signs, 40), some_row(source, prices.signs, 40))

    def test_stretches_that_lie_over_a_half(self):
        dear = Prices("xy", [[(0, 1), (99, 1)], [(99, 1), (0, 1)]], (7, 1), (1, 1))
        for first, second in (("x" + "y" * 9 + "x", "xx"), ("xx", "x" + "y" * 9 + "x"), ("y" * 16, "x" * 16)):
            self.check(dear, first, second)
            self.assertLess(halved(dear, first, second)[0], (50, 1))

    def test_no_deep_calls(self):
        row = "xy" * 20
        self.assertEqual(few_calls_deep(lambda: halved(EVEN, row, row)), ((0, 1), (0, 0), "p" * 40))
        self.assertEqual(few_calls_deep(lambda: place_at(EVEN, row, row, 20)), (20, 20))

    def test_no_sign(self):
        self.assertEqual(refusal(lambda: halved(EVEN, "xyz", "z")), ("NoSign", {"row": 0, "place": 2}))
        self.assertEqual(refusal(lambda: halved(EVEN, "", "xxyz")), ("NoSign", {"row": 1, "place": 3}))

    def test_prices_are_not_changed(self):
        kept = dict(vars(EVEN))
        told = halved(EVEN, "xyx", "yx")
        place_at(EVEN, "xyx", "yx", 1)
        self.assertEqual(halved(EVEN, "xyx", "yx"), told)
        self.assertEqual(vars(EVEN), kept)


if __name__ == "__main__":
    unittest.main()
