import random
import unittest

from gapweave.blocks import block_cost
from gapweave.cheapest import cheapest
from gapweave.hall import lay_text, many_text
from gapweave.joining import laid_by
from gapweave.mending import mended
from gapweave.prices import Prices
from gapweave.texts import (
    read_block, read_laying, read_prices, written_block, written_fraction, written_laying, written_prices)
from plain import (
    PRICE_KINDS, both_ways, cheapest_by_table, few_calls_deep, fraction_of, large_prices, refusal, sixty_figures,
    some_prices, some_row)

EVEN = "xy\n0 5\n5 0\n3 1"
UNEVEN = "xy\n0 5\n4 0\n3 1"
STRANGE = ("-", "%", '"', "\t", "\r", "\x00", "\x7f", "\u00e9")
TREES = {1: 0, 2: (0, 1), 3: ((0, 1), 2), 4: (((0, 1), 2), 3), 5: ((((0, 1), 2), 3), 4),
         8: (((((((0, 1), 2), 3), 4), 5), 6), 7)}


def no_text(line):
    return ("NoText", {"line": line})


def no_sign(row, place):
    return ("NoSign", {"row": row, "place": place})


def some_texts(source, many, signs="xyz"):
    return [some_row(source, signs, source.randint(0, 9)) for _ in range(many)]


class Point27LayText(unittest.TestCase):
    def test_known_rows(self):
        self.assertEqual(lay_text(EVEN, "xyx\nyx"), "4\nxyx\n-yx")
        self.assertEqual(lay_text(EVEN, "\n"), "0\n\n")
        self.assertEqual(lay_text(EVEN, "x\n"), "4\nx\n-")
        self.assertEqual(lay_text(EVEN, "\nxy"), "5\n--\nxy")
        self.assertEqual(lay_text(" \n-1/2\n3 1/3", "   \n  "), "7/3\n   \n  -")

    def test_against_cheapest(self):
        source = random.Random(101)
        for prices in list(PRICE_KINDS.values()) + [some_prices(source, "xyz") for _ in range(40)]:
            first, second = some_texts(source, 2, prices.signs)
            told = lay_text(written_prices(prices), first + "\n" + second)
            cost, _, moves = cheapest(prices, first, second)
            self.assertEqual(told, written_fraction(cost) + "\n" + written_laying(first, second, moves))
            cost, _, moves = cheapest_by_table(prices, first, second, "whole")[0]
            head, _, rest = told.partition("\n")
            self.assertEqual(fraction_of(head), cost)
            self.assertEqual(read_laying(rest), (first, second, moves))

    def test_at_the_bounds(self):
        source = random.Random(102)
        for prices in (large_prices(), sixty_figures(source, "abcdefghijkl")):
            first, second = (some_row(source, prices.signs, 40) for _ in range(2))
            told = few_calls_deep(lambda: lay_text(written_prices(prices), first + "\n" + second))
            cost, _, moves = cheapest(prices, first, second)
            head, _, rest = told.partition("\n")
            self.assertEqual(fraction_of(head), cost)
            self.assertEqual(read_laying(rest), (first, second, moves))

    def test_prices_are_read_first(self):
        for rows in ("x\ny", "x", "x\n-", "z\nz", "x\ny\nx"):
            for prices, line in (("", 0), ("xx\n1 1\n1 1\n1 1", 0), ("x\n01\n1 1", 1), ("x\n1", 2), ("x\n1\n1 1\n", 3)):
                self.assertEqual(refusal(lambda: lay_text(prices, rows)), no_text(line))

    def test_then_rows_that_are_not_two(self):
        for rows in ("", "x", "%", "z", "x\ny\nx", "%\nx\ny", "\n\n", "x\ny\n", "-", "z\nz\nz"):
            self.assertEqual(refusal(lambda: lay_text(EVEN, rows)), no_text(2))

    def test_then_the_first_row_with_a_thing_that_is_no_sign(self):
        for thing in STRANGE:
            for rows, line in (
                    (thing + "\nx", 0), ("x\n" + thing, 1), ("zx" + thing + "\n" + thing, 0), ("z\ny" + thing, 1)):
                self.assertEqual(refusal(lambda: lay_text(EVEN, rows)), no_text(line))

    def test_then_no_sign(self):
        for rows, row, place in (("z\nx", 0, 0), ("xz\nz", 0, 1), ("xy\nxyz", 1, 2), ("x \ny", 0, 1), ("\n ", 1, 0)):
            self.assertEqual(refusal(lambda: lay_text(EVEN, rows)), no_sign(row, place))

    def test_prices_need_not_be_the_same_both_ways(self):
        self.assertEqual(lay_text(UNEVEN, "y\nx"), "4\ny\nx")
        self.assertEqual(lay_text(UNEVEN, "x\ny"), "5\nx\ny")


class Point27ManyText(unittest.TestCase):
    def check(self, prices, rows, most):
        told = many_text(written_prices(prices), "\n".join(rows), most)
        block = mended(prices, laid_by(prices, rows, TREES[len(rows)]), most)[0]
        self.assertEqual(told, written_fraction(block_cost(prices, block)) + "\n" + written_block(block))
        head, _, rest = told.partition("\n")
        self.assertEqual(fraction_of(head), block_cost(prices, read_block(rest)))
        self.assertEqual([row.replace("-", "") for row in rest.split("\n")], rows)

    def test_known_rows(self):
        self.assertEqual(many_text(EVEN, "xyx\nyx\nxx", 5), "4\nxyx\n-yx\nx-x")
        self.assertEqual(many_text(EVEN, "", 0), "0\n")
        self.assertEqual(many_text(EVEN, "xy", 3), "0\nxy")
        self.assertEqual(many_text(EVEN, "\n\n", 3), "0\n\n\n")
        self.assertEqual(many_text("x\n1/2\n0 1/3", "x\nx", 3), "1/2\nx\nx")

    def test_against_laid_by_and_mended(self):
        source = random.Random(103)
        for many in (1, 2, 3, 4, 5):
            for _ in range(12):
                rows = some_texts(source, many)
                prices = both_ways(some_prices(source, "xyz"))
                for most in (0, 1, 2, 200):
                    with self.subTest(rows=rows, most=most):
                        self.check(prices, rows, most)

    def test_how_often_it_is_mended_makes_a_difference(self):
        source = random.Random(104)
        found = 0
        for _ in range(40):
            prices = both_ways(some_prices(source, "xyz", 0, 5))
            text = "\n".join(some_texts(source, 5))
            answers = [many_text(written_prices(prices), text, most) for most in (0, 1, 2, 200)]
            found += len(set(answers)) > 2
        self.assertGreater(found, 0)

    def test_at_the_bounds(self):
        source = random.Random(105)
        prices = both_ways(large_prices())
        rows = [some_row(source, prices.signs, 40) for _ in range(8)]
        self.check(prices, rows, 200)
        few_calls_deep(lambda: many_text(written_prices(prices), "\n".join(rows), 200))

    def test_costs_of_thousands_of_figures(self):
        source = random.Random(106)
        prices = both_ways(sixty_figures(source, "abcdefghijkl"))
        rows = [some_row(source, prices.signs, 40) for _ in range(8)]
        told = many_text(written_prices(prices), "\n".join(rows), 200)
        self.assertGreater(len(told.partition("\n")[0]), 2 * 4300)
        self.check(prices, rows, 200)

    def test_more_rows_than_calls_may_go_deep(self):
        self.assertEqual(few_calls_deep(lambda: many_text(EVEN, "\n" * 2000, 0)), "0\n" + "\n" * 2000)

    def test_prices_are_read_first(self):
        for rows in ("x\ny", "-", "z", ""):
            for most in (-1, 0):
                self.assertEqual(refusal(lambda: many_text("xy\n1 2\n2 02\n1 1", rows, most)), no_text(2))

    def test_then_the_first_row_with_a_thing_that_is_no_sign(self):
        for thing in STRANGE:
            for prices in (EVEN, UNEVEN):
                for rows, line in (
                        (thing, 0), ("x\ny" + thing, 1), ("z\n\nx\n" + thing + "\n" + thing, 3), ("z" + thing, 0)):
                    for most in (-1, 0, 1):
                        self.assertEqual(refusal(lambda: many_text(prices, rows, most)), no_text(line))

    def test_then_no_sign(self):
        for prices in (EVEN, UNEVEN):
            for rows, row, place in (("z", 0, 0), ("xy\nxyz\nz", 1, 2), ("x\n\ny ", 2, 1)):
                for most in (-1, 0, 1):
                    self.assertEqual(refusal(lambda: many_text(prices, rows, most)), no_sign(row, place))

    def test_then_no_prices(self):
        for rows in ("", "x", "xy\nyx", "\n"):
            for most in (-1, 0, 1):
                self.assertEqual(refusal(lambda: many_text(UNEVEN, rows, most)), ("NoPrices", {}))

    def test_then_no_most(self):
        for rows in ("", "x", "xy\nyx", "\n"):
            for most in (-1, -200, -10 ** 5000):
                self.assertEqual(refusal(lambda: many_text(EVEN, rows, most)), ("NoMost", {}))

    def test_what_is_told_may_be_handed_in_again(self):
        told = many_text(EVEN, "xyx\nyx\nxx", 5)
        rest = told.partition("\n")[2]
        self.assertEqual(many_text(EVEN, rest.replace("-", ""), 5), told)
        prices = read_prices(EVEN)
        self.assertIs(type(prices), Prices)
        self.assertEqual(block_cost(prices, mended(prices, read_block(rest), 5)[0]), (4, 1))


if __name__ == "__main__":
    unittest.main()
