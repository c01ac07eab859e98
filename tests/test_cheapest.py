import random
import unittest

from gapweave.cheapest import cheapest, count_of, paper_of
from gapweave.layings import cost_of, end_of, fits
from gapweave.prices import Prices, in_units, more_cost, opening_cost, pair_cost, unit_of
from plain import (
    MANNERS, PRICE_KINDS, all_layings, by_order, cheapest_by_table, cost_by_stretches, few_calls_deep, large_prices,
    manners_of, refusal, rows_up_to, some_prices, some_row)

PRICES = PRICE_KINDS["whole"]
EVEN = Prices("xy", [[(0, 1), (5, 1)], [(5, 1), (0, 1)]], (3, 1), (1, 1))


def pairs_of_rows():
    """All pairs of rows of none to two signs, and some with a row of three."""
    short = rows_up_to("xy", 2)
    pairs = [(first, second) for first in short for second in short]
    for first, second in (("xyx", "yx"), ("yyx", ""), ("", "xyy"), ("x", "yxy"), ("xxx", "xxx"), ("xyy", "yxy")):
        pairs.append((first, second))
    return pairs


def listed(prices, first, second):
    """For each manner the first of all cheapest layings, and how many there are."""
    by_manner = {manner: [] for manner in MANNERS}
    for begin, moves, end in all_layings(first, second):
        over, under = cost_by_stretches(prices, first, second, begin, moves)
        # In units, so that a whole number is compared.
        laying = (over * (unit_of(prices) // under), begin, by_order(moves), moves)
        for manner in manners_of(first, second, begin, end):
            by_manner[manner].append(laying)
    answers = {}
    for manner, layings in by_manner.items():
        cost, begin, _, moves = min(layings)
        answers[manner] = (in_units(prices, cost), begin, moves), sum(laying[0] == cost for laying in layings)
    return answers


class Point11Point12AgainstAListing(unittest.TestCase):
    def test_all_manners_and_kinds_of_prices(self):
        for kind, prices in PRICE_KINDS.items():
            for first, second in pairs_of_rows():
                for manner, (laying, many) in listed(prices, first, second).items():
                    with self.subTest(kind=kind, first=first, second=second, manner=manner):
                        self.assertEqual(cheapest(prices, first, second, manner), laying)
                        self.assertEqual(count_of(prices, first, second, manner), many)

    def test_some_prices_and_rows_of_up_to_three_signs(self):
        source = random.Random(11)
        for _ in range(150):
            prices = some_prices(source, "xyz")
            first, second = some_row(source, "xyz", source.randint(0, 3)), some_row(source, "xyz", source.randint(0, 3))
            for manner, (laying, many) in listed(prices, first, second).items():
                with self.subTest(first=first, second=second, manner=manner):
                    self.assertEqual(cheapest(prices, first, second, manner), laying)
                    self.assertEqual(count_of(prices, first, second, manner), many)


class Point11Cheapest(unittest.TestCase):
    def test_whole_where_the_manner_is_left_out(self):
        self.assertEqual(cheapest(EVEN, "xyxx", "yxyx"), cheapest(EVEN, "xyxx", "yxyx", "whole"))
        self.assertNotEqual(cheapest(EVEN, "xyxx", "yxyx"), cheapest(EVEN, "xyxx", "yxyx", "over"))

    def test_a_tuple_of_a_fraction_a_place_and_a_text(self):
        for manner in MANNERS:
            told = cheapest(PRICE_KINDS["broken"], "xyx", "yx", manner)
            self.assertEqual([type(thing) for thing in told], [tuple, tuple, str])
            self.assertEqual([type(number) for number in told[0] + told[1]], [int] * 4)

    def test_each_manner(self):
        self.assertEqual(cheapest(EVEN, "xy", "yxyx", "whole"), ((8, 1), (0, 0), "bppb"))
        self.assertEqual(cheapest(EVEN, "xy", "yyxyx", "within"), ((0, 1), (0, 2), "pp"))
        self.assertEqual(cheapest(EVEN, "yyxy", "xyx", "over"), ((0, 1), (2, 0), "pp"))
        self.assertEqual(cheapest(EVEN, "yyxy", "xyx", "stretch"), ((0, 1), (0, 0), ""))

    def test_empty_rows(self):
        for manner in MANNERS:
            self.assertEqual(cheapest(EVEN, "", "", manner), ((0, 1), (0, 0), ""))
        self.assertEqual(cheapest(EVEN, "", "xx"), ((5, 1), (0, 0), "bb"))
        self.assertEqual(cheapest(EVEN, "xx", ""), ((5, 1), (0, 0), "aa"))
        self.assertEqual(cheapest(EVEN, "", "xx", "within"), ((0, 1), (0, 0), ""))
        self.assertEqual(cheapest(EVEN, "xx", "", "within"), ((5, 1), (0, 0), "aa"))
        self.assertEqual(cheapest(EVEN, "xx", "", "over"), ((0, 1), (2, 0), ""))

    def test_the_lesser_begin_goes_first(self):
        nought = PRICE_KINDS["nought"]
        for manner in MANNERS:
            self.assertEqual(cheapest(nought, "xy", "yxx", manner)[1], (0, 0))
        bonus = Prices("xy", [[(-1, 1), (9, 1)], [(9, 1), (9, 1)]], (9, 1), (9, 1))
        self.assertEqual(cheapest(bonus, "yxx", "yxyx", "stretch"), ((-1, 1), (1, 1), "p"))
        self.assertEqual(cheapest(bonus, "x", "yxyx", "within"), ((-1, 1), (0, 1), "p"))

    def test_p_ahead_of_a_and_a_ahead_of_b(self):
        nought = PRICE_KINDS["nought"]
        self.assertEqual(cheapest(nought, "xxx", "xx")[2], "ppa")
        self.assertEqual(cheapest(nought, "xx", "xxx")[2], "ppb")
        dear = Prices("x", [[(9, 1)]], (1, 1), (1, 1))
        self.assertEqual(cheapest(dear, "xx", "xx")[2], "aabb")

    def test_an_end_ahead_of_more(self):
        nought = PRICE_KINDS["nought"]
        self.assertEqual(cheapest(nought, "xy", "yxx", "stretch")[2], "")
        self.assertEqual(cheapest(nought, "xy", "yxx", "within")[2], "pp")
        self.assertEqual(cheapest(nought, "", "yxx", "within")[2], "")
        self.assertEqual(cheapest(nought, "xy", "", "over")[2], "aa")

    def test_goes_on_from_an_end_where_that_is_cheaper(self):
        below = Prices("x", [[(9, 1)]], (5, 1), (-4, 1))
        self.assertEqual(cheapest(below, "", "xxx", "within"), ((-7, 1), (0, 0), "bbb"))
        self.assertEqual(cheapest(below, "", "x", "within"), ((0, 1), (0, 0), ""))

    def test_stretches_that_open_anew_where_that_earns(self):
        earns = Prices("x", [[(9, 1)]], (-3, 1), (1, 1))
        self.assertEqual(cheapest(earns, "xx", "xx"), ((-8, 1), (0, 0), "abab"))

    def test_told_in_lowest_terms(self):
        prices = Prices("x", [[(1, 6)]], (9, 1), (9, 1))
        self.assertEqual([cheapest(prices, "x" * many, "x" * many)[0] for many in range(1, 7)],
                         [(1, 6), (1, 3), (1, 2), (2, 3), (5, 6), (1, 1)])

    def test_signs_of_the_first_row_come_first(self):
        prices = Prices("xy", [[(9, 1), (1, 1)], [(2, 1), (9, 1)]], (9, 1), (9, 1))
        self.assertEqual(cheapest(prices, "x", "y"), ((1, 1), (0, 0), "p"))
        self.assertEqual(cheapest(prices, "y", "x"), ((2, 1), (0, 0), "p"))

    def test_what_is_told_may_be_handed_in_again(self):
        for manner in MANNERS:
            for prices in PRICE_KINDS.values():
                cost, begin, moves = cheapest(prices, "xyxxy", "yyx", manner)
                self.assertEqual(cost_of(prices, "xyxxy", "yyx", begin, moves), cost)
                self.assertTrue(fits(prices, "xyxxy", "yyx", begin, moves, manner))


class Point11Point12LargerRows(unittest.TestCase):
    def check(self, prices, first, second):
        for manner in MANNERS:
            with self.subTest(first=first, second=second, manner=manner):
                laying, many = cheapest_by_table(prices, first, second, manner)
                self.assertEqual(cheapest(prices, first, second, manner), laying)
                self.assertEqual(count_of(prices, first, second, manner), many)

    def test_against_a_plain_table(self):
        source = random.Random(12)
        for _ in range(25):
            signs = source.choice(("x", "xy", "xyz"))
            prices = some_prices(source, signs)
            self.check(prices, some_row(source, signs, source.randint(0, 12)),
                       some_row(source, signs, source.randint(0, 12)))

    def test_rows_of_forty_signs(self):
        source = random.Random(13)
        self.check(some_prices(source, "xy"), some_row(source, "xy", 40), some_row(source, "xy", 40))
        self.check(PRICE_KINDS["nought"], "xy" * 20, "yyxy" * 10)

    def test_twelve_signs_and_forty_figures(self):
        source = random.Random(14)
        prices = large_prices()
        first, second = some_row(source, prices.signs, 40), some_row(source, prices.signs, 40)
        self.check(prices, first, second)

    def test_no_deep_calls(self):
        row = "xy" * 20
        for manner in MANNERS:
            few_calls_deep(lambda: cheapest(PRICES, row, row, manner))
            few_calls_deep(lambda: count_of(PRICES, row, row, manner))
            few_calls_deep(lambda: paper_of(PRICES, row, row, manner))


class Point12Counts(unittest.TestCase):
    def test_all_of_them_where_all_cost_nought(self):
        nought = PRICE_KINDS["nought"]
        for first, second in (("", ""), ("x", ""), ("", "y"), ("xy", "yx"), ("xyx", "x"), ("xyx", "yyy")):
            listing = list(all_layings(first, second))
            for manner in MANNERS:
                many = sum(manner in manners_of(first, second, begin, end) for begin, _, end in listing)
                self.assertEqual(count_of(nought, first, second, manner), many)

    def test_known_counts(self):
        nought = PRICE_KINDS["nought"]
        # The ways through a square of so many steps by three moves.
        self.assertEqual([count_of(nought, "x" * many, "x" * many, "whole") for many in range(6)],
                         [1, 3, 13, 63, 321, 1683])
        self.assertEqual(count_of(EVEN, "xy", "xy", "whole"), 1)
        self.assertEqual(count_of(EVEN, "xy", "xyxyx", "within"), 2)
        self.assertEqual(count_of(EVEN, "x", "y", "stretch"), 4)

    def test_a_whole_number(self):
        for manner in MANNERS:
            self.assertIs(type(count_of(EVEN, "xy", "yx", manner)), int)


class Point13Paper(unittest.TestCase):
    def check_form(self, paper, first, second):
        self.assertIs(type(paper), list)
        self.assertEqual(len(paper), len(first) + 1)
        for row in paper:
            self.assertIs(type(row), list)
            self.assertEqual(len(row), len(second) + 1)
            for three in row:
                self.assertIs(type(three), tuple)
                self.assertEqual(len(three), 3)
                for number in three:
                    self.assertIn(type(number), (int, type(None)))

    def check_moves(self, prices, first, second, paper, i, j):
        for came, number in enumerate(paper[i][j]):
            if number is None:
                continue
            if i < len(first) and j < len(second):
                self.check_bound(paper[i + 1][j + 1][0], number + pair_cost(prices, first[i], second[j]))
            if i < len(first):
                cost = more_cost(prices) if came == 1 else more_cost(prices) + opening_cost(prices)
                self.check_bound(paper[i + 1][j][1], number + cost)
            if j < len(second):
                cost = more_cost(prices) if came == 2 else more_cost(prices) + opening_cost(prices)
                self.check_bound(paper[i][j + 1][2], number + cost)

    def check_bound(self, number, most):
        self.assertIsNotNone(number)
        self.assertLessEqual(number, most)

    def check_paper(self, prices, first, second, manner):
        paper = paper_of(prices, first, second, manner)
        self.check_form(paper, first, second)
        ends = []
        for i in range(len(first) + 1):
            for j in range(len(second) + 1):
                if manner in manners_of(first, second, (i, j), (len(first), len(second))):
                    self.check_bound(paper[i][j][0], 0)
                self.check_moves(prices, first, second, paper, i, j)
                if manner in manners_of(first, second, (0, 0), (i, j)):
                    ends.extend(number for number in paper[i][j] if number is not None)
        self.assertEqual(in_units(prices, min(ends)), cheapest(prices, first, second, manner)[0])

    def test_all_manners_and_kinds_of_prices(self):
        for kind, prices in PRICE_KINDS.items():
            for first, second in pairs_of_rows():
                for manner in MANNERS:
                    with self.subTest(kind=kind, first=first, second=second, manner=manner):
                        self.check_paper(prices, first, second, manner)

    def test_larger_rows(self):
        source = random.Random(15)
        for _ in range(20):
            signs = source.choice(("xy", "xyz"))
            prices = some_prices(source, signs)
            first, second = (some_row(source, signs, source.randint(0, 12)) for _ in range(2))
            for manner in MANNERS:
                self.check_paper(prices, first, second, manner)

    def test_at_the_bounds(self):
        source = random.Random(16)
        prices = large_prices()
        for manner in MANNERS:
            self.check_paper(
                prices, some_row(source, prices.signs, 40), some_row(source, prices.signs, 40), manner)

    def test_no_laying_of_the_manner_costs_less(self):
        # Point [14]: along a laying's moves the numbers grow by at most what each move costs.
        for prices in PRICE_KINDS.values():
            for manner in MANNERS:
                paper = paper_of(prices, "xyx", "yx", manner)
                for begin, moves, end in all_layings("xyx", "yx"):
                    if not fits(prices, "xyx", "yx", begin, moves, manner):
                        continue
                    for many in range(len(moves) + 1):
                        i, j = end_of(prices, "xyx", "yx", begin, moves[:many])
                        came = "pab".index(moves[many - 1]) if many else 0
                        over, under = cost_of(prices, "xyx", "yx", begin, moves[:many])
                        self.check_bound(paper[i][j][came], over * (unit_of(prices) // under))

    def test_what_is_told_is_the_askers_own(self):
        for manner in MANNERS:
            paper = paper_of(EVEN, "xyx", "yx", manner)
            kept = [list(row) for row in paper]
            laying, many = cheapest(EVEN, "xyx", "yx", manner), count_of(EVEN, "xyx", "yx", manner)
            for row in paper:
                row[0] = "changed"
                row.append((1, 2, 3))
            paper.clear()
            self.assertEqual(paper_of(EVEN, "xyx", "yx", manner), kept)
            self.assertEqual(cheapest(EVEN, "xyx", "yx", manner), laying)
            self.assertEqual(count_of(EVEN, "xyx", "yx", manner), many)

    def test_no_row_of_a_paper_is_another_ones(self):
        paper = paper_of(EVEN, "xyx", "yx", "whole")
        kept = [list(row) for row in paper]
        later = paper_of(EVEN, "xyx", "yx", "whole")
        for row in later:
            row.clear()
        later.append([])
        self.assertEqual(paper, kept)
        self.assertEqual(len({id(row) for row in paper}), 4)


class Point11ToPoint13Refusals(unittest.TestCase):
    ASKERS = (cheapest, count_of, paper_of)

    def test_no_sign(self):
        for ask in self.ASKERS:
            for manner in MANNERS:
                for first, second, row, place in (
                        ("xz", "y", 0, 1), ("x", "yyz", 1, 2), ("xxz", "zz", 0, 2), ("", "z", 1, 0), ("-", "", 0, 0)):
                    self.assertEqual(
                        refusal(lambda: ask(PRICES, first, second, manner)), ("NoSign", {"row": row, "place": place}))

    def test_no_sign_where_the_manner_is_left_out(self):
        self.assertEqual(refusal(lambda: cheapest(PRICES, "x", "z")), ("NoSign", {"row": 1, "place": 0}))

    def test_no_manner(self):
        for ask in self.ASKERS:
            for manner in ("", "Whole", "whole ", "hole", "stretched", "p"):
                self.assertEqual(refusal(lambda: ask(PRICES, "x", "y", manner)), ("NoManner", {}))
                self.assertEqual(refusal(lambda: ask(PRICES, "", "", manner)), ("NoManner", {}))

    def test_no_sign_ahead_of_no_manner(self):
        for ask in self.ASKERS:
            self.assertEqual(
                refusal(lambda: ask(PRICES, "xy", "xz", "sideways")), ("NoSign", {"row": 1, "place": 1}))


class Point1NothingIsChanged(unittest.TestCase):
    def test_prices_and_the_lists_they_were_made_of(self):
        pairs = [[(2, 4), (3, 1)], [(2, 1), (1, 1)]]
        prices = Prices("xy", pairs, (2, 1), (1, 1))
        kept = dict(vars(prices))
        for manner in MANNERS:
            told = cheapest(prices, "xyx", "yx", manner), count_of(prices, "xyx", "yx", manner)
            paper_of(prices, "xyx", "yx", manner)
            self.assertEqual((cheapest(prices, "xyx", "yx", manner), count_of(prices, "xyx", "yx", manner)), told)
        self.assertEqual(vars(prices), kept)
        self.assertEqual(pairs, [[(2, 4), (3, 1)], [(2, 1), (1, 1)]])
        pairs[0][0] = (99, 1)
        self.assertEqual(cheapest(prices, "x", "x"), ((1, 2), (0, 0), "p"))


if __name__ == "__main__":
    unittest.main()
