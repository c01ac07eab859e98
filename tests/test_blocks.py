import random
import unittest

from gapweave.blocks import Block, alone, bare, block_cost, without
from gapweave.prices import Prices
from plain import (
    PRICE_KINDS, as_tuple, large_prices, plain_block_cost, refusal, some_block, some_prices)

# Each price is of its own, so that a cost tells what was reckoned; opening counts nowhere in a block.
PRICES = Prices("xy", [[(1, 7), (10, 1)], [(100, 1), (-1000, 1)]], (5000, 1), (1, 10))
STRANGE = ("%", '"', "\n", "\t", "\r", "\x1f", "\x7f", "\x00", "\u00e9", "\u2013")


class Point17Block(unittest.TestCase):
    def test_rows_are_kept_as_a_tuple(self):
        for rows in (["x"], ["xy", "-y"], ["x-", "-x", "xx"], [""], ["", "", ""]):
            self.assertEqual(Block(rows).rows, tuple(rows))
            self.assertIs(type(Block(rows).rows), tuple)
            self.assertEqual(Block(tuple(rows)).rows, tuple(rows))

    def test_no_list_that_was_handed_in_is_kept_or_changed(self):
        rows = ["x-", "-y"]
        block = Block(rows)
        self.assertEqual(rows, ["x-", "-y"])
        rows[0] = "yy"
        rows.append("xx")
        self.assertEqual(block.rows, ("x-", "-y"))
        rows.clear()
        self.assertEqual(block.rows, ("x-", "-y"))

    def test_all_signs(self):
        signs = "".join(chr(number) for number in range(32, 127) if chr(number) not in '-%"')
        self.assertEqual(len(signs), 92)
        self.assertEqual(Block([signs]).rows, (signs,))
        self.assertEqual(Block([signs, "-" * 92]).rows, (signs, "-" * 92))

    def test_no_row(self):
        self.assertEqual(refusal(lambda: Block([])), ("NoBlock", {}))
        self.assertEqual(refusal(lambda: Block(())), ("NoBlock", {}))

    def test_lengths_that_differ(self):
        for rows in (["x", "xy"], ["xy", "x"], ["", "x"], ["x", ""], ["xy", "yx", "x"], ["xy", "yxy", "xx"]):
            self.assertEqual(refusal(lambda: Block(rows)), ("NoBlock", {}))

    def test_a_thing_that_is_neither_a_sign_nor_a_gap(self):
        for thing in STRANGE:
            for rows in ([thing], ["x" + thing], [thing + "x"], ["xx", "x" + thing], ["x" + thing, "xx"]):
                self.assertEqual(refusal(lambda: Block(rows)), ("NoBlock", {}))

    def test_a_column_of_gaps_alone(self):
        for rows in (["-"], ["x-"], ["-x"], ["x-y", "y-x"], ["-x", "-x", "-x"], ["x-", "y-"], ["--", "--"]):
            self.assertEqual(refusal(lambda: Block(rows)), ("NoBlock", {}))

    def test_no_columns(self):
        self.assertEqual(Block([""]).rows, ("",))
        self.assertEqual(Block(["", ""]).rows, ("", ""))
        self.assertEqual(bare(Block(["", ""]), 1), "")
        self.assertEqual(without(Block(["", ""]), 0).rows, ("",))

    def test_at_the_bounds(self):
        rows = some_block(random.Random(31), "abcdefghijkl", 8, 80)
        self.assertEqual(Block(rows).rows, tuple(rows))


class Point17Rows(unittest.TestCase):
    def test_bare(self):
        block = Block(["x--y-", "-yx-x", "-----"])
        self.assertEqual([bare(block, row) for row in range(3)], ["xy", "yxx", ""])

    def test_alone(self):
        for text in ("", "x", "xyx", " a b~"):
            self.assertIs(type(alone(text)), Block)
            self.assertEqual(alone(text).rows, (text,))

    def test_alone_is_refused_as_any_block(self):
        for text in ("-", "x-", "-x", "x-y") + STRANGE + tuple("x" + thing for thing in STRANGE):
            self.assertEqual(refusal(lambda: alone(text)), ("NoBlock", {}))

    def test_without(self):
        block = Block(["x-y", "xy-", "--y"])
        self.assertIs(type(without(block, 0)), Block)
        self.assertEqual(without(block, 0).rows, ("xy-", "--y"))
        self.assertEqual(without(block, 1).rows, ("xy", "-y"))
        self.assertEqual(without(block, 2).rows, ("x-y", "xy-"))
        self.assertEqual(block.rows, ("x-y", "xy-", "--y"))

    def test_without_leaves_out_columns_of_gaps_alone(self):
        self.assertEqual(without(Block(["-x-y-", "xyxyx"]), 1).rows, ("xy",))
        self.assertEqual(without(Block(["--", "xy"]), 1).rows, ("",))
        self.assertEqual(without(Block(["--", "xy", "--"]), 1).rows, ("", ""))
        self.assertEqual(without(Block(["--", "xy"]), 0).rows, ("xy",))
        self.assertEqual(without(Block(["x-", "xy", "-y"]), 1).rows, ("x-", "-y"))

    def test_without_of_like_rows_takes_the_row_of_the_number(self):
        block = Block(["xy", "yx", "xy"])
        self.assertEqual(without(block, 0).rows, ("yx", "xy"))
        self.assertEqual(without(block, 2).rows, ("xy", "yx"))

    def test_no_row(self):
        block = Block(["x-", "xy", "-y"])
        for row in (-1, -2, -3, -4, 3, 4, 99, 10 ** 5000, -10 ** 5000):
            self.assertEqual(refusal(lambda: bare(block, row)), ("NoRow", {}))
            self.assertEqual(refusal(lambda: without(block, row)), ("NoRow", {}))

    def test_no_other_row(self):
        for text in ("", "xy"):
            for row in (-1, 0, 1):
                self.assertEqual(refusal(lambda: without(alone(text), row)), ("NoRow", {}))
            self.assertEqual(bare(alone(text), 0), text)
            self.assertEqual(refusal(lambda: bare(alone(text), 1)), ("NoRow", {}))


class Point18Cost(unittest.TestCase):
    def test_a_pair_of_rows(self):
        for rows, cost in (
                (["x", "x"], (1, 7)), (["x", "y"], (10, 1)), (["y", "x"], (100, 1)), (["y", "y"], (-1000, 1)),
                (["x", "-"], (1, 10)), (["-", "y"], (1, 10)), (["-x", "y-"], (1, 5)), (["xxx", "---"], (3, 10))):
            self.assertEqual(block_cost(PRICES, Block(rows)), cost)

    def test_gaps_beside_one_another_cost_nought(self):
        self.assertEqual(block_cost(PRICES, Block(["-", "-", "x"])), (1, 5))
        self.assertEqual(block_cost(PRICES, Block(["x", "-", "-"])), (1, 5))

    def test_one_row_or_no_columns_cost_nought(self):
        for rows in (["xyxy"], [""], ["", "", ""]):
            self.assertEqual(block_cost(PRICES, Block(rows)), (0, 1))

    def test_the_earlier_row_comes_first(self):
        self.assertEqual(block_cost(PRICES, Block(["x", "y", "-"])), (51, 5))
        self.assertEqual(block_cost(PRICES, Block(["y", "-", "x"])), (501, 5))

    def test_against_a_plain_sum(self):
        source = random.Random(32)
        for _ in range(200):
            prices = some_prices(source, "xyz")
            rows = some_block(source, "xyz", source.randint(1, 5), source.randint(0, 6))
            self.assertEqual(block_cost(prices, Block(rows)), as_tuple(plain_block_cost(prices, rows)))

    def test_all_kinds_of_prices(self):
        source = random.Random(33)
        for kind, prices in PRICE_KINDS.items():
            for _ in range(10):
                rows = some_block(source, "xy", 3, 5)
                with self.subTest(kind=kind, rows=rows):
                    self.assertEqual(block_cost(prices, Block(rows)), as_tuple(plain_block_cost(prices, rows)))

    def test_at_the_bounds(self):
        prices = large_prices()
        rows = some_block(random.Random(34), prices.signs, 8, 80)
        self.assertEqual(block_cost(prices, Block(rows)), as_tuple(plain_block_cost(prices, rows)))

    def test_no_sign(self):
        for rows, row, place in (
                (["z"], 0, 0), (["x-z", "zzz"], 0, 2), (["-xy", "x-z", "z--"], 1, 2), (["-x", "x-", "yz"], 2, 1),
                (["xX"], 0, 1), (["xy ", "---"], 0, 2)):
            self.assertEqual(
                refusal(lambda: block_cost(PRICES, Block(rows))), ("NoSign", {"row": row, "place": place}))

    def test_nothing_is_changed(self):
        block, kept = Block(["x-", "xy"]), dict(vars(PRICES))
        told = block_cost(PRICES, block)
        self.assertEqual(block_cost(PRICES, block), told)
        self.assertEqual(block.rows, ("x-", "xy"))
        self.assertEqual(vars(PRICES), kept)


if __name__ == "__main__":
    unittest.main()
