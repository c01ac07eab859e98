import random
import unittest

from gapweave.blocks import Block, alone, bare, block_cost, without
from gapweave.fractions import less_than
from gapweave.joining import joined, laid_by
from gapweave.mending import laid_anew, mended
from gapweave.prices import Prices
from plain import (
    PRICE_KINDS, as_tuple, both_ways, few_calls_deep, laid_anew_by_listing, large_prices, plain_block_cost, refusal,
    sixty_figures, some_block, some_prices, some_row)

EVEN = Prices("xy", [[(0, 1), (5, 1)], [(5, 1), (0, 1)]], (50, 1), (2, 1))
UNEVEN = Prices("xy", [[(0, 1), (1, 1)], [(9, 1), (0, 1)]], (50, 1), (3, 1))


def some_mending(source, most_rows, most_columns):
    signs = source.choice(("x", "xy", "xyz"))
    prices = both_ways(some_prices(source, signs))
    return prices, some_block(source, signs, source.randint(1, most_rows), source.randint(0, most_columns))


class Point21LaidAnew(unittest.TestCase):
    def check(self, prices, rows):
        block = Block(rows)
        for row in range(len(rows)):
            told = laid_anew(prices, block, row)
            self.assertIs(type(told), Block)
            self.assertEqual(list(told.rows), laid_anew_by_listing(prices, rows, row))
            self.assertEqual([bare(told, number) for number in range(len(rows))],
                             [text.replace("-", "") for text in rows])
        self.assertEqual(block.rows, tuple(rows))

    def test_each_row_against_all_joinings(self):
        source = random.Random(61)
        for _ in range(120):
            signs = source.choice(("x", "xy", "xyz"))
            prices = some_prices(source, signs)
            rows = some_block(source, signs, source.randint(2, 4), source.randint(0, 4))
            with self.subTest(rows=rows):
                self.check(prices, rows)

    def test_all_kinds_of_prices(self):
        source = random.Random(62)
        for kind, prices in PRICE_KINDS.items():
            for _ in range(4):
                rows = some_block(source, "xy", 3, 3)
                with self.subTest(kind=kind, rows=rows):
                    self.check(prices, rows)

    def test_against_without_alone_and_joined(self):
        source = random.Random(63)
        for _ in range(30):
            prices = some_prices(source, "xyz")
            block = Block(some_block(source, "xyz", source.randint(2, 6), source.randint(0, 20)))
            for row in range(len(block.rows)):
                rows = list(joined(prices, alone(bare(block, row)), without(block, row)).rows)
                rows.insert(row, rows.pop(0))
                self.assertEqual(laid_anew(prices, block, row).rows, tuple(rows))

    def test_it_costs_no_more_where_prices_are_the_same_both_ways(self):
        source = random.Random(64)
        for _ in range(60):
            prices = both_ways(some_prices(source, "xyz"))
            block = Block(some_block(source, "xyz", source.randint(2, 6), source.randint(0, 20)))
            for row in range(len(block.rows)):
                told = laid_anew(prices, block, row)
                self.assertFalse(less_than(block_cost(prices, block), block_cost(prices, told)))

    def test_known_blocks(self):
        self.assertEqual(laid_anew(EVEN, Block(["xy-", "--x"]), 0).rows, ("xy", "x-"))
        self.assertEqual(laid_anew(EVEN, Block(["xy-", "--x"]), 1).rows, ("xy", "x-"))
        self.assertEqual(laid_anew(EVEN, Block(["xy", "-x", "x-"]), 1).rows, ("xy", "x-", "x-"))

    def test_a_row_put_back_to_its_number(self):
        block = Block(["xyx", "x-x", "-yx", "xy-"])
        for row in range(4):
            told = laid_anew(EVEN, block, row)
            self.assertEqual([bare(told, number) for number in range(4)], ["xyx", "xx", "yx", "xy"])

    def test_the_row_is_joined_first_whatever_its_number(self):
        # The last row's y stands first while it is joined, so y beside x costs 9 then, and x beside y 1.
        self.assertEqual(laid_anew(UNEVEN, Block(["x", "y"]), 1).rows, ("-x", "y-"))
        self.assertEqual(laid_anew(UNEVEN, Block(["x", "y"]), 0).rows, ("x", "y"))

    def test_rows_without_signs(self):
        self.assertEqual(laid_anew(EVEN, Block(["", ""]), 1).rows, ("", ""))
        self.assertEqual(laid_anew(EVEN, Block(["xy", "--"]), 1).rows, ("xy", "--"))
        self.assertEqual(laid_anew(EVEN, Block(["xy", "--"]), 0).rows, ("xy", "--"))

    def test_the_block_stays(self):
        block, kept = Block(["xy-", "--x"]), dict(vars(EVEN))
        told = laid_anew(EVEN, block, 0)
        self.assertEqual(block.rows, ("xy-", "--x"))
        self.assertEqual(laid_anew(EVEN, block, 0).rows, told.rows)
        self.assertEqual(vars(EVEN), kept)

    def test_no_row(self):
        block = Block(["xy", "-x", "yy"])
        for row in (-1, -2, -3, -4, 3, 4, 99, 10 ** 5000, -10 ** 5000):
            self.assertEqual(refusal(lambda: laid_anew(EVEN, block, row)), ("NoRow", {}))

    def test_no_row_in_a_block_of_one_row(self):
        for text in ("", "xy"):
            for row in (-1, 0, 1):
                self.assertEqual(refusal(lambda: laid_anew(EVEN, alone(text), row)), ("NoRow", {}))

    def test_no_sign_ahead_of_no_row(self):
        for rows, row, place in (
                (["xz", "z-"], 0, 1), (["-x", "zy"], 1, 0), (["-xy", "x-z", "z--"], 1, 2), (["z"], 0, 0),
                (["xy", "--", "-z"], 2, 1)):
            for number in (-1, 0, 1, 2, 9):
                self.assertEqual(refusal(lambda: laid_anew(EVEN, Block(rows), number)),
                                 ("NoSign", {"row": row, "place": place}))


class Point22Mended(unittest.TestCase):
    def check(self, prices, rows, most):
        block = Block(rows)
        told, steps = self.told(prices, block, most)
        self.assertEqual(block.rows, tuple(rows))
        self.assertLessEqual(len(steps), most)
        cost = block_cost(prices, block)
        for row, behind in steps:
            for number in range(row):
                self.assertFalse(less_than(block_cost(prices, laid_anew(prices, block, number)), cost))
            block = laid_anew(prices, block, row)
            self.assertEqual(block_cost(prices, block), behind)
            self.assertTrue(less_than(behind, cost))
            cost = behind
        self.assertEqual(told.rows, block.rows)
        if len(steps) < most and len(rows) > 1:
            for number in range(len(rows)):
                self.assertFalse(less_than(block_cost(prices, laid_anew(prices, block, number)), cost))
        return steps

    def told(self, prices, block, most):
        told = mended(prices, block, most)
        self.assertIs(type(told), tuple)
        self.assertEqual([type(thing) for thing in told], [Block, list])
        for step in told[1]:
            self.assertEqual([type(step), type(step[0]), type(step[1])], [tuple, int, tuple])
            self.assertEqual(len(step), 2)
        return told

    def test_step_by_step(self):
        source = random.Random(65)
        lengths = {}
        for _ in range(120):
            prices, rows = some_mending(source, 5, 12)
            for most in (0, 1, 2, source.randint(0, 6), 200):
                with self.subTest(rows=rows, most=most):
                    steps = self.check(prices, rows, most)
                    lengths[len(steps)] = True
        # Else too little of it would have been looked at.
        self.assertGreaterEqual(len(lengths), 6)

    def test_fewer_steps_are_the_first_of_more(self):
        source = random.Random(66)
        prices = both_ways(some_prices(source, "xyz", 0, 9))
        block = Block(some_block(source, "xyz", 5, 20))
        steps = mended(prices, block, 200)[1]
        self.assertGreater(len(steps), 4)
        for most in range(len(steps) + 3):
            self.assertEqual(mended(prices, block, most)[1], steps[:most])

    def test_from_the_first_row_again(self):
        source = random.Random(67)
        found = False
        for _ in range(40):
            prices, rows = some_mending(source, 5, 12)
            numbers = [row for row, _ in mended(prices, Block(rows), 200)[1]]
            found = found or numbers != sorted(numbers)
        self.assertTrue(found)

    def test_known_block(self):
        told, steps = mended(EVEN, Block(["xy-", "--x"]), 5)
        self.assertEqual(told.rows, ("xy", "x-"))
        self.assertEqual(steps, [(0, (2, 1))])

    def test_what_it_costs_against_a_plain_sum(self):
        source = random.Random(68)
        for _ in range(30):
            prices, rows = some_mending(source, 4, 8)
            told, steps = mended(prices, Block(rows), 200)
            if steps:
                self.assertEqual(steps[-1][1], as_tuple(plain_block_cost(prices, told.rows)))

    def test_none_asked_for(self):
        told, steps = mended(EVEN, Block(["xy-", "--x"]), 0)
        self.assertEqual((told.rows, steps), (("xy-", "--x"), []))

    def test_none_needed(self):
        # Nothing is laid anew for the same cost, though it would be laid otherwise.
        level = Prices("x", [[(2, 1)]], (0, 1), (1, 1))
        self.assertEqual(laid_anew(level, Block(["x-", "-x"]), 0).rows, ("x", "x"))
        told, steps = mended(level, Block(["x-", "-x"]), 9)
        self.assertEqual((told.rows, steps), (("x-", "-x"), []))

    def test_a_block_of_one_row(self):
        for text in ("", "x", "xyyx"):
            for most in (0, 1, 200):
                told, steps = mended(EVEN, alone(text), most)
                self.assertEqual((told.rows, steps), ((text,), []))

    def test_no_columns(self):
        told, steps = mended(EVEN, Block(["", "", ""]), 9)
        self.assertEqual((told.rows, steps), (("", "", ""), []))

    def test_most_beyond_the_bound(self):
        source = random.Random(69)
        prices, rows = some_mending(source, 5, 12)
        self.assertEqual(mended(prices, Block(rows), 10 ** 30)[1], mended(prices, Block(rows), 200)[1])

    def test_what_is_told_is_the_askers_own(self):
        block = Block(["xy-", "--x"])
        told, steps = mended(EVEN, block, 9)
        steps[0] = None
        steps.append((7, (7, 7)))
        again, later = mended(EVEN, block, 9)
        self.assertEqual((again.rows, later), (("xy", "x-"), [(0, (2, 1))]))
        later.clear()
        self.assertEqual(steps, [None, (7, (7, 7))])
        for rows in (["xy"], ["xy", "xy"]):
            none = mended(EVEN, Block(rows), 9)[1]
            none.append("changed")
            self.assertEqual(mended(EVEN, Block(rows), 9)[1], [])

    def test_what_is_told_may_be_handed_in_again(self):
        source = random.Random(70)
        prices, rows = some_mending(source, 5, 12)
        told = mended(prices, Block(rows), 200)[0]
        again, steps = mended(prices, told, 200)
        self.assertEqual((again.rows, steps), (told.rows, []))

    def test_at_the_bounds(self):
        source = random.Random(71)
        prices = both_ways(large_prices())
        block = Block(some_block(source, prices.signs, 8, 80))
        told, steps = few_calls_deep(lambda: mended(prices, block, 200))
        self.assertEqual(block_cost(prices, told), steps[-1][1])
        rows = [some_row(source, prices.signs, 40) for _ in range(8)]
        tree = (((((((0, 1), 2), 3), 4), 5), 6), 7)
        told = few_calls_deep(lambda: mended(prices, laid_by(prices, rows, tree), 200))[0]
        self.assertEqual([bare(told, row) for row in range(8)], rows)

    def test_prices_of_sixty_figures(self):
        source = random.Random(72)
        prices = both_ways(sixty_figures(source, "abcdefghijkl"))
        block = Block(some_block(source, prices.signs, 8, 80))
        told, steps = mended(prices, block, 200)
        self.assertEqual(block_cost(prices, told), steps[-1][1])
        costs = [block_cost(prices, block)] + [cost for _, cost in steps]
        for ahead, behind in zip(costs, costs[1:]):
            self.assertTrue(less_than(behind, ahead))


class Point22Refusals(unittest.TestCase):
    def test_no_most(self):
        for most in (-1, -2, -200, -10 ** 5000):
            for rows in (["xy-", "--x"], ["xy"], ["", ""]):
                self.assertEqual(refusal(lambda: mended(EVEN, Block(rows), most)), ("NoMost", {}))

    def test_no_prices(self):
        for rows in (["xy-", "--x"], ["xy"], [""], ["xx", "xx"]):
            for most in (-1, 0, 1, 200):
                self.assertEqual(refusal(lambda: mended(UNEVEN, Block(rows), most)), ("NoPrices", {}))

    def test_no_sign_ahead_of_both(self):
        for prices in (EVEN, UNEVEN):
            for most in (-1, 0, 1):
                for rows, row, place in (
                        (["xz", "z-"], 0, 1), (["-x", "zy"], 1, 0), (["z"], 0, 0), (["xy", "--", "-z"], 2, 1)):
                    self.assertEqual(refusal(lambda: mended(prices, Block(rows), most)),
                                     ("NoSign", {"row": row, "place": place}))

    def test_opening_and_more_may_be_whatever_they_are(self):
        prices = Prices("xy", [[(0, 1), (1, 2)], [(2, 4), (1, 1)]], (-7, 3), (5, 2))
        self.assertEqual(mended(prices, Block(["x", "y"]), 3)[0].rows, ("x", "y"))


if __name__ == "__main__":
    unittest.main()
