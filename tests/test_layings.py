import unittest

from gapweave.errors import NoLaying, NoManner, NoSign
from gapweave.layings import cost_of, end_of, fits
from gapweave.prices import Prices
from plain import MANNERS, all_layings, cost_by_stretches, manners_of

# Each price is of its own, so that a cost tells what was reckoned.
PRICES = Prices("xy", [[(1, 7), (10, 1)], [(100, 1), (-1000, 1)]], (1, 3), (1, 10))


def even_prices():
    return Prices("xy", [[(0, 1), (5, 1)], [(5, 1), (0, 1)]], (3, 1), (1, 1))


class Point7StrangeSigns(unittest.TestCase):
    def askers(self, begin, moves, manner="whole"):
        return (
            lambda first, second: end_of(PRICES, first, second, begin, moves),
            lambda first, second: cost_of(PRICES, first, second, begin, moves),
            lambda first, second: fits(PRICES, first, second, begin, moves, manner),
        )

    def refused(self, first, second, row, place, begin=(0, 0), moves="", manner="whole"):
        for ask in self.askers(begin, moves, manner):
            with self.assertRaises(NoSign) as caught:
                ask(first, second)
            self.assertEqual((caught.exception.row, caught.exception.place), (row, place))

    def test_first_strange_sign_of_the_first_row(self):
        self.refused("z", "", 0, 0)
        self.refused("xyz", "xy", 0, 2)
        self.refused("xzxzz", "xy", 0, 1)

    def test_first_strange_sign_of_the_second_row(self):
        self.refused("", "z", 1, 0)
        self.refused("xy", "xyyz", 1, 3)
        self.refused("xy", "yzz", 1, 1)

    def test_first_row_ahead_of_the_second(self):
        self.refused("xxz", "zzz", 0, 2)
        self.refused("z", "z", 0, 0)

    def test_gaps_and_signs_of_other_tables_are_strange(self):
        self.refused("x-", "", 0, 1)
        self.refused("x", "y\n", 1, 1)
        self.refused("xX", "y", 0, 1)

    def test_a_sign_beyond_the_laying_counts(self):
        self.refused("xxz", "xx", 0, 2, moves="pp")
        self.refused("zxx", "xx", 0, 0, begin=(1, 0), moves="pp")

    def test_ahead_of_all_other_refusals(self):
        self.refused("xz", "y", 0, 1, begin=(-1, 0))
        self.refused("x", "yz", 1, 1, begin=(9, 9))
        self.refused("x", "yz", 1, 1, moves="q")
        self.refused("x", "yz", 1, 1, moves="pppp")
        self.refused("x", "yz", 1, 1, manner="no manner")
        self.refused("z", "z", 0, 0, begin=(9, 9), moves="q", manner="no manner")


class Point8Ends(unittest.TestCase):
    def test_each_move(self):
        self.assertEqual(end_of(PRICES, "xy", "xy", (0, 0), "p"), (1, 1))
        self.assertEqual(end_of(PRICES, "xy", "xy", (0, 0), "a"), (1, 0))
        self.assertEqual(end_of(PRICES, "xy", "xy", (0, 0), "b"), (0, 1))

    def test_begins_anywhere(self):
        self.assertEqual(end_of(PRICES, "xyx", "xy", (1, 0), "pa"), (3, 1))
        self.assertEqual(end_of(PRICES, "xyx", "xyy", (0, 2), "ap"), (2, 3))
        self.assertEqual(end_of(PRICES, "xyx", "xyy", (1, 2), "aab"), (3, 3))

    def test_no_moves(self):
        for begin in ((0, 0), (2, 1), (1, 0), (0, 1)):
            self.assertEqual(end_of(PRICES, "xy", "x", begin, ""), begin)
        self.assertEqual(end_of(PRICES, "", "", (0, 0), ""), (0, 0))

    def test_up_to_both_ends(self):
        self.assertEqual(end_of(PRICES, "xy", "xyx", (0, 0), "ppb"), (2, 3))
        self.assertEqual(end_of(PRICES, "xy", "", (0, 0), "aa"), (2, 0))
        self.assertEqual(end_of(PRICES, "", "xy", (0, 0), "bb"), (0, 2))

    def test_a_place_is_a_tuple_of_whole_numbers(self):
        for moves in ("", "p"):
            end = end_of(PRICES, "x", "x", (0, 0), moves)
            self.assertIs(type(end), tuple)
            self.assertEqual([type(number) for number in end], [int, int])

    def test_rows_of_forty_signs(self):
        row = "xy" * 20
        self.assertEqual(end_of(PRICES, row, row, (0, 0), "a" * 40 + "b" * 40), (40, 40))
        self.assertEqual(end_of(PRICES, row, row, (0, 0), "p" * 40), (40, 40))

    def test_all_layings_of_short_rows(self):
        for begin, moves, end in all_layings("xy", "yx"):
            self.assertEqual(end_of(PRICES, "xy", "yx", begin, moves), end)


class Point8NoLaying(unittest.TestCase):
    def refused(self, first, second, begin, moves):
        with self.assertRaises(NoLaying):
            end_of(PRICES, first, second, begin, moves)
        with self.assertRaises(NoLaying):
            cost_of(PRICES, first, second, begin, moves)
        for manner in MANNERS:
            with self.assertRaises(NoLaying):
                fits(PRICES, first, second, begin, moves, manner)

    def test_begins_before_the_rows(self):
        for begin in ((-1, 0), (0, -1), (-1, -1), (-7, 2), (2, -7)):
            self.refused("xy", "xy", begin, "")
            self.refused("xy", "xy", begin, "p")

    def test_begins_before_a_row_and_comes_into_it(self):
        self.refused("xy", "xy", (-1, 0), "ap")
        self.refused("xy", "xy", (0, -1), "bp")

    def test_begins_beyond_the_rows(self):
        for begin in ((3, 0), (0, 4), (3, 4), (99, 0), (0, 99), (10 ** 5000, 0)):
            self.refused("xy", "xyx", begin, "")
        self.refused("", "", (1, 0), "")
        self.refused("", "", (0, 1), "")

    def test_begins_by_the_right_rows_length(self):
        self.refused("x", "xyx", (3, 0), "")
        self.refused("xyx", "x", (0, 3), "")
        self.assertEqual(end_of(PRICES, "xyx", "x", (3, 0), ""), (3, 0))
        self.assertEqual(end_of(PRICES, "x", "xyx", (0, 3), ""), (0, 3))

    def test_a_move_that_is_none(self):
        for strange in ("q", "P", "A", "B", "-", " ", "\n", "x", "0"):
            self.refused("xy", "xy", (0, 0), strange)
            self.refused("xy", "xy", (0, 0), "p" + strange)
            self.refused("xy", "xy", (0, 0), strange + "p")
            self.refused("xy", "xy", (0, 0), "pp" + strange)

    def test_goes_beyond_a_row(self):
        self.refused("xy", "xyx", (0, 0), "ppp")
        self.refused("xyx", "xy", (0, 0), "ppp")
        self.refused("xy", "xyx", (0, 0), "aaa")
        self.refused("xyx", "xy", (0, 0), "bbb")
        self.refused("xy", "xy", (2, 0), "a")
        self.refused("xy", "xy", (0, 2), "b")
        self.refused("xy", "xy", (2, 1), "p")
        self.refused("xy", "xy", (1, 2), "p")
        self.refused("", "", (0, 0), "p")
        self.refused("", "", (0, 0), "a")
        self.refused("", "", (0, 0), "b")


class Point9Costs(unittest.TestCase):
    def test_each_pair_has_its_price(self):
        self.assertEqual(cost_of(PRICES, "x", "x", (0, 0), "p"), (1, 7))
        self.assertEqual(cost_of(PRICES, "x", "y", (0, 0), "p"), (10, 1))
        self.assertEqual(cost_of(PRICES, "y", "x", (0, 0), "p"), (100, 1))
        self.assertEqual(cost_of(PRICES, "y", "y", (0, 0), "p"), (-1000, 1))

    def test_pairs_are_of_the_places_gone_through(self):
        self.assertEqual(cost_of(PRICES, "xy", "yx", (0, 0), "pp"), (110, 1))
        self.assertEqual(cost_of(PRICES, "xy", "yx", (1, 0), "p"), (-1000, 1))
        self.assertEqual(cost_of(PRICES, "xy", "yx", (0, 1), "p"), (1, 7))

    def test_a_stretch_costs_opening_once(self):
        prices = even_prices()
        for many in range(1, 6):
            self.assertEqual(cost_of(prices, "x" * 5, "", (0, 0), "a" * many), (3 + many, 1))
            self.assertEqual(cost_of(prices, "", "x" * 5, (0, 0), "b" * many), (3 + many, 1))

    def test_stretches_of_both_rows_beside_one_another(self):
        prices = even_prices()
        self.assertEqual(cost_of(prices, "xx", "xx", (0, 0), "aabb"), (10, 1))
        self.assertEqual(cost_of(prices, "xx", "xx", (0, 0), "abab"), (16, 1))
        self.assertEqual(cost_of(prices, "xx", "xx", (0, 0), "abba"), (13, 1))
        self.assertEqual(cost_of(prices, "xx", "xx", (0, 0), "baab"), (13, 1))
        self.assertEqual(cost_of(prices, "xx", "x", (0, 0), "aba"), (12, 1))

    def test_stretches_with_a_pair_between(self):
        prices = even_prices()
        self.assertEqual(cost_of(prices, "xxx", "y", (0, 0), "apa"), (13, 1))
        self.assertEqual(cost_of(prices, "y", "xxx", (0, 0), "bpb"), (13, 1))
        self.assertEqual(cost_of(prices, "xxx", "x", (0, 0), "aap"), (5, 1))

    def test_lowest_terms_and_exactness(self):
        self.assertEqual(cost_of(PRICES, "x", "", (0, 0), "a"), (13, 30))
        self.assertEqual(cost_of(PRICES, "xx", "", (0, 0), "aa"), (8, 15))
        self.assertEqual(cost_of(PRICES, "x", "x", (0, 0), "ab"), (13, 15))
        self.assertEqual(cost_of(PRICES, "x" * 7, "x" * 7, (0, 0), "p" * 7), (1, 1))

    def test_no_moves_cost_nought(self):
        for begin in ((0, 0), (1, 0), (0, 2), (1, 2)):
            self.assertEqual(cost_of(PRICES, "x", "yy", begin, ""), (0, 1))
        self.assertEqual(cost_of(PRICES, "", "", (0, 0), ""), (0, 1))

    def test_a_cost_of_nought_that_has_moves(self):
        prices = Prices("x", [[(1, 3)]], (-1, 2), (1, 6))
        self.assertEqual(cost_of(prices, "xx", "x", (0, 0), "pa"), (0, 1))

    def test_stretches_cost_from_where_they_begin(self):
        prices = even_prices()
        self.assertEqual(cost_of(prices, "xxxx", "x", (2, 0), "aa"), (5, 1))
        self.assertEqual(cost_of(prices, "xyxy", "yxyx", (1, 2), "pb"), (4, 1))

    def test_forty_figures_and_forty_signs(self):
        long = 10 ** 39 + 7
        prices = Prices("xy", [[(long, 999), (-long, 998)], [(1, 997), (long, 1)]], (long, 2), (-long, 3))
        first, second = "xy" * 20, "yyx" * 13 + "x"
        for moves in ("p" * 40, "a" * 40 + "b" * 40, "pab" * 19, "bbbpaaap" * 7):
            self.assertEqual(
                cost_of(prices, first, second, (0, 0), moves),
                cost_by_stretches(prices, first, second, (0, 0), moves))

    def test_all_layings_of_short_rows(self):
        for first, second in (("xyx", "y"), ("xy", "yx"), ("", "xy")):
            for begin, moves, _ in all_layings(first, second):
                self.assertEqual(
                    cost_of(PRICES, first, second, begin, moves),
                    cost_by_stretches(PRICES, first, second, begin, moves))


class Point10Manners(unittest.TestCase):
    def fitting(self, first, second, begin, moves):
        told = [fits(PRICES, first, second, begin, moves, manner) for manner in MANNERS]
        for answer in told:
            self.assertIs(type(answer), bool)
        return [manner for manner, answer in zip(MANNERS, told) if answer]

    def test_whole(self):
        self.assertEqual(self.fitting("xy", "yx", (0, 0), "pp"), list(MANNERS))
        self.assertEqual(self.fitting("xy", "", (0, 0), "aa"), list(MANNERS))
        self.assertEqual(self.fitting("", "", (0, 0), ""), list(MANNERS))

    def test_within(self):
        self.assertEqual(self.fitting("xy", "xyxy", (0, 1), "pp"), ["within", "stretch"])
        self.assertEqual(self.fitting("xy", "xyxy", (0, 2), "pp"), ["within", "stretch"])
        self.assertEqual(self.fitting("xy", "xyxy", (0, 4), "aa"), ["within", "stretch"])
        self.assertEqual(self.fitting("xy", "xyxy", (0, 0), "pp"), ["within", "over", "stretch"])
        self.assertEqual(self.fitting("", "xy", (0, 1), ""), ["within", "stretch"])

    def test_over(self):
        self.assertEqual(self.fitting("xyx", "yxy", (1, 0), "pp"), ["over", "stretch"])
        self.assertEqual(self.fitting("xyx", "yxy", (3, 0), ""), ["over", "stretch"])
        self.assertEqual(self.fitting("xyx", "yxy", (3, 0), "bbb"), ["over", "stretch"])
        self.assertEqual(self.fitting("xyx", "yxy", (0, 0), "aaa"), ["within", "over", "stretch"])

    def test_stretch(self):
        self.assertEqual(self.fitting("xyx", "yxy", (1, 1), "p"), ["stretch"])
        self.assertEqual(self.fitting("xyx", "yxy", (1, 1), ""), ["stretch"])
        self.assertEqual(self.fitting("xyx", "yxy", (0, 0), ""), ["stretch"])
        self.assertEqual(self.fitting("xyx", "yxy", (0, 0), "pp"), ["stretch"])
        self.assertEqual(self.fitting("xyx", "yxy", (0, 0), "bbb"), ["stretch"])
        self.assertEqual(self.fitting("xyx", "yxy", (1, 1), "pp"), ["stretch"])
        self.assertEqual(self.fitting("xyx", "yxy", (3, 3), ""), ["stretch"])

    def test_all_layings_of_short_rows(self):
        for first, second in (("xy", "yx"), ("x", "yyx"), ("xyx", ""), ("", "xy")):
            for begin, moves, end in all_layings(first, second):
                expected = manners_of(first, second, begin, end)
                self.assertEqual(sorted(self.fitting(first, second, begin, moves)), sorted(expected))

    def test_no_manner(self):
        for word in ("", "Whole", "whole ", "hole", "stretches", "with", "ver", "p"):
            with self.assertRaises(NoManner):
                fits(PRICES, "x", "x", (0, 0), "p", word)

    def test_no_manner_ahead_of_no_laying(self):
        for begin, moves in (((-1, 0), ""), ((0, 0), "q"), ((0, 0), "pp"), ((0, 9), "")):
            with self.assertRaises(NoManner):
                fits(PRICES, "x", "x", begin, moves, "sideways")

    def test_no_sign_ahead_of_no_manner(self):
        with self.assertRaises(NoSign) as caught:
            fits(PRICES, "x", "xz", (0, 9), "q", "sideways")
        self.assertEqual((caught.exception.row, caught.exception.place), (1, 1))

    def test_no_laying_even_where_the_begin_is_none_of_the_manner(self):
        for manner in MANNERS:
            with self.assertRaises(NoLaying):
                fits(PRICES, "xy", "xy", (1, 1), "pp", manner)


if __name__ == "__main__":
    unittest.main()
