import itertools
import random
import unittest

from gapweave.blocks import Block, alone, block_cost
from gapweave.joining import join_paper, joined, laid_by
from gapweave.prices import Prices, in_units, unit_of
from plain import (
    PRICE_KINDS, all_joinings, as_tuple, few_calls_deep, joined_by_listing, joining_by, large_prices,
    plain_block_cost, refusal, rows_up_to, some_block, some_prices, some_row)

EVEN = Prices("xy", [[(0, 1), (5, 1)], [(5, 1), (0, 1)]], (50, 1), (2, 1))
NOUGHT = PRICE_KINDS["nought"]
UNEVEN = Prices("xy", [[(0, 1), (1, 1)], [(9, 1), (0, 1)]], (50, 1), (3, 1))


def units(prices, rows):
    cost = plain_block_cost(prices, rows) * unit_of(prices)
    assert cost.denominator == 1
    return cost.numerator


def some_blocks(source, most_rows, most_columns):
    signs = source.choice(("x", "xy", "xyz"))
    prices = some_prices(source, signs)
    one, other = (
        some_block(source, signs, source.randint(1, most_rows), source.randint(0, most_columns)) for _ in range(2))
    return prices, one, other


class Point19Joined(unittest.TestCase):
    def check(self, prices, one, other):
        told = joined(prices, Block(one), Block(other))
        self.assertIs(type(told), Block)
        self.assertEqual(list(told.rows), joined_by_listing(prices, one, other))

    def test_rows_alone_and_all_kinds_of_prices(self):
        for kind, prices in PRICE_KINDS.items():
            for first in rows_up_to("xy", 2) + ["xyx"]:
                for second in rows_up_to("xy", 2) + ["yyx"]:
                    with self.subTest(kind=kind, first=first, second=second):
                        self.check(prices, [first], [second])

    def test_blocks_against_all_joinings(self):
        source = random.Random(41)
        for _ in range(250):
            prices, one, other = some_blocks(source, 3, 3)
            with self.subTest(one=one, other=other):
                self.check(prices, one, other)

    def test_the_rows_of_the_first_come_first(self):
        self.assertEqual(joined(EVEN, Block(["xy", "-y"]), Block(["xy"])).rows, ("xy", "-y", "xy"))
        self.assertEqual(joined(EVEN, Block(["xy"]), Block(["xy", "-y"])).rows, ("xy", "xy", "-y"))

    def test_the_earlier_rows_sign_comes_first(self):
        self.assertEqual(joined(UNEVEN, alone("x"), alone("y")).rows, ("x", "y"))
        self.assertEqual(joined(UNEVEN, alone("y"), alone("x")).rows, ("y-", "-x"))

    def test_opening_counts_nowhere(self):
        self.assertEqual(joined(EVEN, alone("xyx"), alone("xx")).rows, ("xyx", "x-x"))

    def test_of_several_the_one_whose_moves_come_first(self):
        self.assertEqual(joined(NOUGHT, alone("xxx"), alone("y")).rows, ("xxx", "y--"))
        self.assertEqual(joined(NOUGHT, alone("x"), alone("yyy")).rows, ("x--", "yyy"))
        dear = Prices("x", [[(9, 1)]], (0, 1), (1, 1))
        self.assertEqual(joined(dear, alone("xx"), alone("xx")).rows, ("xx--", "--xx"))
        # A pair costs what two signs alone cost.
        level = Prices("x", [[(2, 1)]], (0, 1), (1, 1))
        self.assertEqual(joined(level, alone("xx"), alone("xx")).rows, ("xx", "xx"))

    def test_no_columns(self):
        self.assertEqual(joined(EVEN, alone(""), alone("")).rows, ("", ""))
        self.assertEqual(joined(EVEN, alone("xy"), Block(["", ""])).rows, ("xy", "--", "--"))
        self.assertEqual(joined(EVEN, Block(["", ""]), alone("xy")).rows, ("--", "--", "xy"))

    def test_both_blocks_stay(self):
        one, other = Block(["x-", "xy"]), Block(["yx"])
        told = joined(EVEN, one, other)
        join_paper(EVEN, one, other)
        self.assertEqual((one.rows, other.rows), (("x-", "xy"), ("yx",)))
        self.assertEqual(joined(EVEN, one, other).rows, told.rows)

    def test_a_block_with_itself(self):
        block = Block(["x-y", "xy-"])
        self.assertEqual(joined(EVEN, block, block).rows, ("x-y", "xy-") * 2)

    def test_what_is_told_may_be_handed_in_again(self):
        source = random.Random(42)
        prices = some_prices(source, "xy")
        blocks = [Block(some_block(source, "xy", 2, 2)) for _ in range(3)]
        once = joined(prices, blocks[0], blocks[1])
        self.check(prices, list(once.rows), list(blocks[2].rows))

    def test_at_the_bounds(self):
        source = random.Random(43)
        prices = large_prices()
        one, other = (Block(some_block(source, prices.signs, 8, 80)) for _ in range(2))
        told = self.check_cost(prices, one, other)
        self.check_cost(prices, told, told)

    def check_cost(self, prices, one, other):
        told = few_calls_deep(lambda: joined(prices, one, other))
        paper = few_calls_deep(lambda: join_paper(prices, one, other))
        self.assertEqual(block_cost(prices, told), in_units(prices, paper[-1][-1]))
        return told

    def test_no_sign(self):
        for ask in (joined, join_paper):
            for one, other, row, place in (
                    (["xz"], ["x"], 0, 1), (["x"], ["xyz"], 1, 2), (["x-", "zy"], ["z"], 1, 0),
                    (["x-", "xy"], ["x", "z"], 3, 0), (["x-", "xy"], ["xyx-", "--xz"], 3, 3),
                    (["-z", "z-"], ["z"], 0, 1), ([""], ["-z", "x-"], 1, 1)):
                self.assertEqual(
                    refusal(lambda: ask(EVEN, Block(one), Block(other))), ("NoSign", {"row": row, "place": place}))


class Point19Paper(unittest.TestCase):
    def check_form(self, paper, one, other):
        self.assertIs(type(paper), list)
        self.assertEqual(len(paper), len(one[0]) + 1)
        for row in paper:
            self.assertIs(type(row), list)
            self.assertEqual([type(number) for number in row], [int] * (len(other[0]) + 1))

    def added(self, prices, one, other, i, j, move):
        """What a move at a place adds to the cost beyond what both blocks' own columns cost."""
        left = [row[i:i + 1] for row in one] if move in "pa" else [""] * len(one)
        right = [row[j:j + 1] for row in other] if move in "pb" else [""] * len(other)
        rows = joining_by(left, right, move)
        return units(prices, rows) - units(prices, left) - units(prices, right)

    def check(self, prices, one, other):
        paper = join_paper(prices, Block(one), Block(other))
        self.check_form(paper, one, other)
        self.assertEqual(paper[0][0], units(prices, one) + units(prices, other))
        for i, j in itertools.product(range(len(one[0]) + 1), range(len(other[0]) + 1)):
            if i < len(one[0]) and j < len(other[0]):
                most = paper[i][j] + self.added(prices, one, other, i, j, "p")
                self.assertLessEqual(paper[i + 1][j + 1], most)
            if i < len(one[0]):
                self.assertLessEqual(paper[i + 1][j], paper[i][j] + self.added(prices, one, other, i, j, "a"))
            if j < len(other[0]):
                self.assertLessEqual(paper[i][j + 1], paper[i][j] + self.added(prices, one, other, i, j, "b"))
        told = joined(prices, Block(one), Block(other))
        self.assertEqual(paper[-1][-1], units(prices, told.rows))

    def test_rows_alone_and_all_kinds_of_prices(self):
        for kind, prices in PRICE_KINDS.items():
            for first in rows_up_to("xy", 2):
                for second in rows_up_to("xy", 2):
                    with self.subTest(kind=kind, first=first, second=second):
                        self.check(prices, [first], [second])

    def test_some_blocks(self):
        source = random.Random(44)
        for _ in range(100):
            prices, one, other = some_blocks(source, 4, 6)
            with self.subTest(one=one, other=other):
                self.check(prices, one, other)

    def test_larger_blocks(self):
        source = random.Random(45)
        prices = large_prices()
        self.check(prices, some_block(source, prices.signs, 8, 30), some_block(source, prices.signs, 8, 25))

    def test_no_columns(self):
        self.assertEqual(join_paper(EVEN, alone(""), Block(["", ""])), [[0]])
        self.check(EVEN, [""], ["xy", "x-"])
        self.check(EVEN, ["xy", "x-"], [""])

    def test_no_joining_costs_less(self):
        source = random.Random(46)
        for _ in range(30):
            prices, one, other = some_blocks(source, 2, 3)
            least = join_paper(prices, Block(one), Block(other))[-1][-1]
            costs = [units(prices, rows) for _, rows in all_joinings(one, other)]
            self.assertEqual(min(costs), least)

    def test_what_is_told_is_the_askers_own(self):
        one, other = Block(["xy", "x-"]), Block(["yx"])
        paper = join_paper(EVEN, one, other)
        kept = [list(row) for row in paper]
        later = join_paper(EVEN, one, other)
        for row in later:
            row[0] = -99
            row.append(7)
        later.clear()
        self.assertEqual(paper, kept)
        self.assertEqual(join_paper(EVEN, one, other), kept)
        self.assertEqual(list(joined(EVEN, one, other).rows), joined_by_listing(EVEN, one.rows, other.rows))


def trees_of(numbers):
    """All trees of pairs in which the numbers stand in this order."""
    if len(numbers) == 1:
        yield numbers[0]
    for many in range(1, len(numbers)):
        for left, right in itertools.product(trees_of(numbers[:many]), trees_of(numbers[many:])):
            yield (left, right)


def laid_by_listing(prices, rows, tree):
    """The numbers and the rows of what is laid along a tree, in the tree's order."""
    if isinstance(tree, int):
        return [tree], [rows[tree]]
    left, right = (laid_by_listing(prices, rows, part) for part in tree)
    return left[0] + right[0], joined_by_listing(prices, left[1], right[1])


class Point20LaidBy(unittest.TestCase):
    def check(self, prices, rows, tree):
        told = laid_by(prices, rows, tree)
        self.assertIs(type(told), Block)
        numbers, laid = laid_by_listing(prices, rows, tree)
        self.assertEqual(told.rows, tuple(row for _, row in sorted(zip(numbers, laid))))
        return told

    def test_trees_of_every_form_and_order(self):
        source = random.Random(47)
        for many in (1, 2, 3):
            for numbers in itertools.permutations(range(many)):
                for tree in trees_of(numbers):
                    for _ in range(4):
                        rows = [some_row(source, "xy", source.randint(0, 2)) for _ in range(many)]
                        with self.subTest(rows=rows, tree=tree):
                            self.check(some_prices(source, "xy"), rows, tree)

    def test_four_rows(self):
        source = random.Random(48)
        for numbers in itertools.permutations(range(4)):
            for tree in trees_of(numbers):
                rows = [some_row(source, "xy", source.randint(0, 2)) for _ in range(4)]
                with self.subTest(rows=rows, tree=tree):
                    self.check(some_prices(source, "xy", 0, 3), rows, tree)

    def test_one_row(self):
        self.assertEqual(laid_by(EVEN, ["xyx"], 0).rows, ("xyx",))
        self.assertEqual(laid_by(EVEN, [""], 0).rows, ("",))

    def test_the_left_one_first(self):
        # Joined with y ahead of x they stand apart, with x ahead of y beside one another.
        self.assertEqual(laid_by(UNEVEN, ["x", "y"], (0, 1)).rows, ("x", "y"))
        self.assertEqual(laid_by(UNEVEN, ["x", "y"], (1, 0)).rows, ("-x", "y-"))
        self.assertEqual(laid_by(UNEVEN, ["y", "x"], (1, 0)).rows, ("y", "x"))
        self.assertEqual(laid_by(UNEVEN, ["y", "x"], (0, 1)).rows, ("y-", "-x"))

    def test_what_it_costs_is_told_by_the_order_of_the_numbers(self):
        told = laid_by(UNEVEN, ["y", "x"], (1, 0))
        self.assertEqual(block_cost(UNEVEN, told), (9, 1))
        self.assertEqual(block_cost(UNEVEN, told), as_tuple(plain_block_cost(UNEVEN, told.rows)))

    def test_rows_that_are_the_same(self):
        self.assertEqual(laid_by(EVEN, ["xy", "xy", "xy"], (2, (0, 1))).rows, ("xy",) * 3)
        self.assertEqual(laid_by(EVEN, ["", "", ""], ((1, 2), 0)).rows, ("",) * 3)

    def test_a_tuple_of_rows_and_a_list_that_stays(self):
        rows = ["xy", "yx", "x"]
        told = laid_by(EVEN, rows, ((0, 1), 2))
        self.assertEqual(rows, ["xy", "yx", "x"])
        self.assertEqual(laid_by(EVEN, tuple(rows), ((0, 1), 2)).rows, told.rows)
        kept = told.rows
        rows[0] = "yyyy"
        rows.clear()
        self.assertEqual(told.rows, kept)

    def test_eight_rows_of_forty_signs(self):
        source = random.Random(49)
        prices = large_prices()
        rows = [some_row(source, prices.signs, 40) for _ in range(8)]
        apart = Prices("ab", [[(999, 1)] * 2] * 2, (0, 1), (1, 1))
        for tree in ((((0, 1), (2, 3)), ((4, 5), (6, 7))), (((((((0, 1), 2), 3), 4), 5), 6), 7),
                     (7, (6, (5, (4, (3, (2, (1, 0)))))))):
            told = few_calls_deep(lambda: laid_by(prices, rows, tree))
            self.assertEqual([row.replace("-", "") for row in told.rows], rows)
            told = few_calls_deep(lambda: laid_by(apart, ["ab" * 20] * 8, tree))
            self.assertEqual([len(row) for row in told.rows], [320] * 8)

    def test_along_the_tree_it_is_joined_again_and_again(self):
        source = random.Random(50)
        prices = some_prices(source, "xyz", 0, 5)
        rows = [some_row(source, "xyz", 9) for _ in range(4)]
        left = joined(prices, alone(rows[2]), alone(rows[0]))
        right = joined(prices, alone(rows[3]), alone(rows[1]))
        whole = joined(prices, left, right).rows
        told = laid_by(prices, rows, ((2, 0), (3, 1)))
        self.assertEqual(told.rows, (whole[1], whole[3], whole[0], whole[2]))


class Point20NoTree(unittest.TestCase):
    def refused(self, rows, tree):
        self.assertEqual(refusal(lambda: laid_by(EVEN, rows, tree)), ("NoTree", {}))

    def test_a_number_twice(self):
        for tree in ((0, 0), (1, 1), ((0, 1), 0), ((0, 1), (1, 0)), (0, (0, 1)), (((0, 1), 1), 0)):
            self.refused(["x", "y"], tree)
        self.refused(["x"], (0, 0))

    def test_a_number_that_is_wanting(self):
        for tree in (0, 1, 2, (0, 1), (0, 2), (2, 1)):
            self.refused(["x", "y", "xy"], tree)

    def test_a_number_beyond_or_below_nought(self):
        for tree in (-1, 1, 2, 99, (0, 1), (0, -1), 10 ** 5000, -10 ** 5000):
            self.refused(["x"], tree)
        for tree in ((0, 2), (2, 1), (0, -1), (-1, 0), (-1, -2), ((0, 1), 2), ((0, 1), -1)):
            self.refused(["x", "y"], tree)

    def test_another_thing(self):
        for thing in (None, "0", "", [], [0, 1], [0], {}, (), (0,), (0, 1, 2), "01", False, True, 0.0, b"0"):
            self.refused(["x"], thing)
            self.refused(["x", "y"], thing)
            self.refused(["x", "y"], (0, thing))
            self.refused(["x", "y"], (thing, 1))
            self.refused(["x", "y"], ((0, 1), thing))
            self.refused(["x", "y"], (thing, (0, 1)))
            self.refused(["x", "y", "x"], (0, (thing, 2)))

    def test_no_row(self):
        for tree in (0, 1, -1, (0, 1), (), None):
            self.refused([], tree)
            self.refused((), tree)

    def test_deep_trees(self):
        left = right = 0
        for _ in range(100000):
            left, right = (left, 1), (1, right)
        for tree in (left, right):
            self.refused(["x", "y"], tree)
        strange = ()
        for _ in range(100000):
            strange = (strange, 1, 1)
        self.refused(["x", "y"], (0, strange))
        few_calls_deep(lambda: self.refused(["x", "y"], left), 60)

    def test_a_tree_that_holds_itself_many_times(self):
        tree, strange = 0, None
        for _ in range(200):
            tree, strange = (tree, tree), (strange, strange)
        self.refused(["x", "y"], tree)
        self.refused(["x", "y"], strange)

    def test_no_sign_ahead_of_no_tree(self):
        for rows, row, place in ((["z"], 0, 0), (["xy", "xz"], 1, 1), (["x", "yz", "z"], 1, 1), (["x", "", "-"], 2, 0)):
            for tree in (0, (0, 1), (0, (1, 2)), None, (0, 0), 99, ()):
                self.assertEqual(
                    refusal(lambda: laid_by(EVEN, rows, tree)), ("NoSign", {"row": row, "place": place}))


if __name__ == "__main__":
    unittest.main()
