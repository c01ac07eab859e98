import random
import sys
import unittest
from fractions import Fraction

from gapweave.blocks import Block, block_cost
from gapweave.cheapest import cheapest
from gapweave.layings import end_of
from gapweave.prices import Prices, unit_of
from gapweave.texts import (
    read_block, read_laying, read_prices, written_block, written_fraction, written_laying, written_prices)
from plain import (
    PRICE_KINDS, all_layings, fraction_of, joining_by, large_prices, manners_of, refusal, rows_up_to, sixty_figures,
    some_block, some_prices, some_row)

STRANGE = ("%", '"', "\t", "\r", "\x00", "\x1f", "\x7f", "\u00e9", "\u2013")
SIXTY, SIXTY_ONE = "7" * 60, "7" * 61

GOOD = {
    "0": (0, 1), "3": (3, 1), "-3": (-3, 1), "3/4": (3, 4), "-3/4": (-3, 4), "10": (10, 1), "-10/7": (-10, 7),
    "1/10": (1, 10), "100/99": (100, 99), "1/2": (1, 2), SIXTY: (int(SIXTY), 1), "-" + SIXTY: (-int(SIXTY), 1),
    "1/" + SIXTY: (1, int(SIXTY)), "-" + SIXTY + "/" + "1" + "0" * 59: (-int(SIXTY), 10 ** 59)}
WRONG = (
    "", "-", "/", "00", "03", "-03", "3/04", "03/4", "+3", "+0", "+3/4", "3/+4", "-0", "-0/3", "--3", "3-", "3/1", "-3/1",
    "0/1", "1/1", "6/4", "-6/4", "0/5", "4/2", "3/3", "3/0", "0/0", "-3/0", "3/-4", "-3/-4", "3/", "/4", "-/4", "3//4",
    "3/4/5", "3/4/", SIXTY_ONE, "-" + SIXTY_ONE, "1/" + SIXTY_ONE, SIXTY_ONE + "/2", "0" * 61, "1/" + "0" * 60, "1_0",
    "_1", "1_", "1/1_0", "3\t", "\t3", "3/\t4", "3\r", "\x0b3", "3.0", ".5", "3.", "1e3", "0x1", "a", "x/2", "1,2", "3,",
    "\u0663", "\u00b2", "1/\u0662", "\uff13", "\u00bd", "\u2212" + "3", "\u00a03", "3\\4", "inf", "nan", "None", "True",
    "9" * 5000, "1/" + "9" * 5000, "-" + "9" * 5000)


def no_text(line):
    return ("NoText", {"line": line})


def same(one, other):
    return (one.signs, one.pairs, one.opening, one.more) == (other.signs, other.pairs, other.opening, other.more)


class Point25Fractions(unittest.TestCase):
    def test_each_form(self):
        for text, fraction in GOOD.items():
            self.assertEqual(written_fraction(fraction), text)

    def test_in_lowest_terms(self):
        for fraction, text in (
                ((6, 4), "3/2"), ((-6, 4), "-3/2"), ((0, 9), "0"), ((8, 4), "2"), ((-8, 4), "-2"), ((5, 5), "1")):
            self.assertEqual(written_fraction(fraction), text)

    def test_against_another_way(self):
        for over in range(-25, 26):
            for under in range(1, 26):
                self.assertEqual(written_fraction((over, under)), str(Fraction(over, under)))

    def test_numbers_of_any_length(self):
        for figures in (1, 2, 59, 60, 61, 119, 120, 121, 180, 4299, 4300, 4301, 9000):
            long = 10 ** (figures - 1)
            self.assertEqual(written_fraction((long, 1)), "1" + "0" * (figures - 1))
            self.assertEqual(written_fraction((-long, 1)), "-1" + "0" * (figures - 1))
            self.assertEqual(written_fraction((10 * long - 1, 1)), "9" * figures)
            self.assertEqual(written_fraction((1, 10 * long)), "1/1" + "0" * figures)
            self.assertEqual(fraction_of(written_fraction((long + 7, long + 8))), (long + 7, long + 8))

    def test_it_hangs_on_no_setting_of_pythons(self):
        limit = sys.get_int_max_str_digits()
        sys.set_int_max_str_digits(640)
        try:
            self.assertEqual(written_fraction((-10 ** 5000 - 1, 3)), "-1" + "0" * 4999 + "1/3")
        finally:
            sys.set_int_max_str_digits(limit)

    def test_what_is_told_may_be_written(self):
        prices = sixty_figures(random.Random(91), "abcdefghijkl")
        cost = block_cost(prices, Block(some_block(random.Random(92), prices.signs, 8, 80)))
        self.assertGreater(cost[1], 10 ** 4300)
        self.assertEqual(fraction_of(written_fraction(cost)), cost)


class Point25Written(unittest.TestCase):
    def test_prices(self):
        prices = Prices("xy", [[(0, 3), (6, 4)], [(-3, 4), (5, 1)]], (-2, 1), (1, 10))
        self.assertEqual(written_prices(prices), "xy\n0 3/2\n-3/4 5\n-2 1/10")
        self.assertEqual(written_prices(Prices(" ", [[(1, 1)]], (2, 1), (3, 1))), " \n1\n2 3")

    def test_block(self):
        self.assertEqual(written_block(Block(["x-y", "-y-"])), "x-y\n-y-")
        self.assertEqual(written_block(Block(["x y"])), "x y")
        self.assertEqual(written_block(Block([""])), "")
        self.assertEqual(written_block(Block(["", "", ""])), "\n\n")

    def test_laying(self):
        self.assertEqual(written_laying("xyx", "yy", "app"), "xyx\n-yy")
        self.assertEqual(written_laying("xyx", "yy", "paba"), "xy-x\ny-y-")
        self.assertEqual(written_laying("", "xy", "bb"), "--\nxy")
        self.assertEqual(written_laying("xy", "", "aa"), "xy\n--")
        self.assertEqual(written_laying("", "", ""), "\n")

    def test_all_whole_layings_of_short_rows(self):
        for first, second in (("xyx", "yx"), ("x", "yyx"), ("xy", ""), ("", "y"), ("", "")):
            for begin, moves, end in all_layings(first, second):
                if "whole" in manners_of(first, second, begin, end):
                    text = written_laying(first, second, moves)
                    self.assertEqual(text, "\n".join(joining_by([first], [second], moves)))
                    self.assertEqual(read_laying(text), (first, second, moves))

    def test_moves_that_are_no_whole_laying(self):
        for first, second, moves in (
                ("x", "y", ""), ("x", "y", "a"), ("xy", "y", "p"), ("x", "y", "pp"), ("x", "y", "q"), ("x", "", "b"),
                ("x", "y", "P"), ("xy", "xy", "pa")):
            self.assertEqual(refusal(lambda: written_laying(first, second, moves)), ("NoLaying", {}))


class Point26ReadPrices(unittest.TestCase):
    def test_known_text(self):
        told = read_prices("xy\n0 3/2\n-3/4 5\n-2 1/10")
        self.assertIs(type(told), Prices)
        self.assertTrue(same(told, Prices("xy", [[(0, 1), (3, 2)], [(-3, 4), (5, 1)]], (-2, 1), (1, 10))))
        self.assertEqual(unit_of(told), 20)

    def test_written_and_read_again(self):
        source = random.Random(93)
        some = [some_prices(source, signs) for signs in ("x", "xy", " ~", "a b", "1/2", "0123456789/ ", "#&'\\")]
        for prices in list(PRICE_KINDS.values()) + some + [large_prices(), sixty_figures(source, "abcdefghijkl")]:
            text = written_prices(prices)
            self.assertTrue(same(read_prices(text), prices))
            self.assertEqual(written_prices(read_prices(text)), text)

    def test_each_form_of_a_fraction_in_each_place(self):
        for text, fraction in GOOD.items():
            for place in range(4):
                parts = ["1"] * 4
                parts[place] = text
                told = read_prices("xy\n{} 1\n1 {}\n{} {}".format(*parts))
                self.assertEqual([told.pairs[0][0], told.pairs[1][1], told.opening, told.more][place], fraction)

    def test_each_wrong_form_of_a_fraction_in_each_place(self):
        for text in WRONG:
            for place, line in enumerate((1, 1, 2, 2, 3, 3)):
                parts = ["1"] * 6
                parts[place] = text
                rows = "xy\n{} {}\n{} {}\n{} {}".format(*parts)
                with self.subTest(text=text[:70], place=place):
                    self.assertEqual(refusal(lambda: read_prices(rows)), no_text(line))

    def test_blanks(self):
        for row in (" 1 2", "1 2 ", "1  2", " ", "", "1\t2", "1", "12", "1 2 3", "1 2 ", "1\u00a02", "1 /2", "- 1 2"):
            self.assertEqual(refusal(lambda: read_prices("xy\n" + row + "\n1 2\n1 2")), no_text(1))
            self.assertEqual(refusal(lambda: read_prices("xy\n1 2\n" + row + "\n1 2")), no_text(2))
            self.assertEqual(refusal(lambda: read_prices("xy\n1 2\n1 2\n" + row)), no_text(3))

    def test_the_row_of_signs(self):
        for signs in ("", "xx", "xyx", "-", "x-", "%x", '"') + STRANGE:
            row = " ".join(["1"] * len(signs))
            rows = [signs] + [row] * len(signs) + ["1 1"]
            self.assertEqual(refusal(lambda: read_prices("\n".join(rows))), no_text(0))

    def test_rows_wanting(self):
        rows = "xy\n1 2\n3 4\n5 6".split("\n")
        for many in range(1, 4):
            self.assertEqual(refusal(lambda: read_prices("\n".join(rows[:many]))), no_text(many))

    def test_rows_too_many(self):
        for more in ("", "5 6", "x", "\n\n"):
            self.assertEqual(refusal(lambda: read_prices("xy\n1 2\n3 4\n5 6\n" + more)), no_text(4))
            self.assertEqual(refusal(lambda: read_prices("x\n1\n5 6\n" + more)), no_text(3))

    def test_the_first_wrong_row(self):
        self.assertEqual(refusal(lambda: read_prices("xy\n1 2\n3 04\n5 -0")), no_text(2))
        self.assertEqual(refusal(lambda: read_prices("xy\n1 x")), no_text(1))
        self.assertEqual(refusal(lambda: read_prices("xx\n1 x")), no_text(0))
        self.assertEqual(refusal(lambda: read_prices("xy\n1 2\n3 4\n5\n6")), no_text(3))
        self.assertEqual(refusal(lambda: read_prices("xy\n1 2\n\n3 4\n5 6")), no_text(2))
        self.assertEqual(refusal(lambda: read_prices("\nxy\n1 2\n3 4\n5 6")), no_text(0))

    def test_other_ends_of_rows(self):
        for end in ("\r\n", "\r", "\x0b", "\x0c", "\x1c", "\x85", "\u2028"):
            self.assertEqual(refusal(lambda: read_prices("xy" + end + "1 2\n3 4\n5 6")), no_text(0))
            self.assertEqual(refusal(lambda: read_prices("xy\n1 2" + end + "\n3 4\n5 6")), no_text(1))

    def test_the_empty_text(self):
        self.assertEqual(refusal(lambda: read_prices("")), no_text(0))

    def test_ten_thousand_signs(self):
        text = "abcdefghijkl\n" + "\n".join([" ".join(["1/" + "1" + "0" * 59] * 12)] * 12) + "\n1 1"
        self.assertLess(len(text), 10000)
        self.assertEqual(unit_of(read_prices(text)), 10 ** 59)
        for text in ("x" * 10000, "\n" * 9999, "x\n" + "9" * 9998, "x\n" + "/" * 9998, "x\n" + " " * 9998):
            self.assertIn(refusal(lambda: read_prices(text)), (no_text(0), no_text(1)))


class Point26ReadBlock(unittest.TestCase):
    def test_written_and_read_again(self):
        source = random.Random(94)
        for many, columns in ((1, 0), (1, 5), (2, 0), (3, 7), (8, 80)):
            rows = [text.replace("-", "x") for text in some_block(source, "xy ", many, columns)] if many == 1 \
                else some_block(source, "xy ", many, columns)
            told = read_block(written_block(Block(rows)))
            self.assertIs(type(told), Block)
            self.assertEqual(told.rows, tuple(rows))

    def test_the_empty_text_is_one_empty_row(self):
        self.assertEqual(read_block("").rows, ("",))
        self.assertEqual(read_block("\n").rows, ("", ""))

    def test_a_row_of_another_length(self):
        for text, line in (
                ("xy\nx", 1), ("x\nxy", 1), ("xy\nxx\nxyx\nx", 2), ("xy\n", 1), ("\nx", 1), ("xy\nyx\n", 2),
                ("-\n--", 1), ("x\n\nx", 1)):
            self.assertEqual(refusal(lambda: read_block(text)), no_text(line))

    def test_a_thing_that_is_neither_sign_nor_gap(self):
        for thing in STRANGE:
            for text, line in (
                    (thing, 0), ("x" + thing + "\nxy", 0), ("xy\nx" + thing, 1), ("xy\nxx\n" + thing + "x\nx", 2),
                    ("x" + thing + "\nx", 0), ("xy\nx\nx" + thing, 1), ("-\n" + thing, 1)):
                self.assertEqual(refusal(lambda: read_block(text)), no_text(line))

    def test_a_column_of_gaps_alone(self):
        for text in ("-", "x-", "x-y\ny-x", "-\n-", "--\n-x", "-x\n-x\n-x"):
            self.assertEqual(refusal(lambda: read_block(text)), ("NoBlock", {}))

    def test_no_text_ahead_of_no_block(self):
        self.assertEqual(refusal(lambda: read_block("-x\n-x\nx")), no_text(2))
        self.assertEqual(refusal(lambda: read_block("-x\n-%")), no_text(1))

    def test_ten_thousand_signs(self):
        row = "xy" * 624
        text = "\n".join([row] * 8)
        self.assertEqual(read_block(text).rows, (row,) * 8)
        self.assertEqual(read_block("\n" * 9999).rows, ("",) * 10000)


class Point26ReadLaying(unittest.TestCase):
    def test_known_layings(self):
        self.assertEqual(read_laying("xyx\n-yy"), ("xyx", "yy", "app"))
        self.assertEqual(read_laying("x-y\n-xy"), ("xy", "xy", "abp"))
        self.assertEqual(read_laying("\n"), ("", "", ""))
        self.assertEqual(read_laying("--\nx "), ("", "x ", "bb"))
        told = read_laying("x\ny")
        self.assertEqual([type(told)] + [type(part) for part in told], [tuple, str, str, str])

    def test_cheapest_layings_written_and_read_again(self):
        source = random.Random(95)
        for prices in PRICE_KINDS.values():
            for _ in range(5):
                first, second = (some_row(source, "xy", source.randint(0, 12)) for _ in range(2))
                moves = cheapest(prices, first, second)[2]
                told = read_laying(written_laying(first, second, moves))
                self.assertEqual(told, (first, second, moves))
                self.assertEqual(end_of(prices, told[0], told[1], (0, 0), told[2]), (len(first), len(second)))

    def test_not_two_rows(self):
        for text in ("", "x", "-", "%", "x\ny\nx", "\n\n", "x\ny\n", "x%\ny\nxyx", "-\n-\n-", "x\nxy\n-\nx"):
            self.assertEqual(refusal(lambda: read_laying(text)), no_text(2))

    def test_then_as_a_block(self):
        for text, line in (("x\nxy", 1), ("x\n", 1), ("%\nxy", 0), ("x\n%", 1), ("xy\n-\t", 1), ("-\n--", 1)):
            self.assertEqual(refusal(lambda: read_laying(text)), no_text(line))
        for text in ("-\n-", "x-\ny-", "-x\n-y"):
            self.assertEqual(refusal(lambda: read_laying(text)), ("NoBlock", {}))

    def test_all_short_texts(self):
        for text in rows_up_to("x-\n", 5):
            rows = text.split("\n")
            columns = list(zip(*rows))
            if len(rows) != 2:
                self.assertEqual(refusal(lambda: read_laying(text)), no_text(2))
            elif len(rows[0]) != len(rows[1]):
                self.assertEqual(refusal(lambda: read_laying(text)), no_text(1))
            elif ("-", "-") in columns:
                self.assertEqual(refusal(lambda: read_laying(text)), ("NoBlock", {}))
            else:
                moves = "".join({"xx": "p", "x-": "a", "-x": "b"}["".join(column)] for column in columns)
                self.assertEqual(read_laying(text), (rows[0].replace("-", ""), rows[1].replace("-", ""), moves))


if __name__ == "__main__":
    unittest.main()
