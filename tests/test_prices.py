import unittest
from fractions import Fraction

from gapweave.errors import NoPrices
from gapweave.prices import (
    Prices, in_units, more_cost, opening_cost, pair_cost, same_both_ways, unit_of,
)

LONG = 10 ** 39 + 7
ALL_SIGNS = "".join(chr(n) for n in range(32, 127) if chr(n) not in '-%"')


def even_prices(signs, price=(1, 1), opening=(2, 1), more=(1, 1)):
    return Prices(signs, [[price for _ in signs] for _ in signs], opening, more)


def two_sign_prices():
    return Prices("xy", [[(0, 4), (6, 4)], [(-2, 6), (10, 5)]], (4, 8), (-9, 6))


class Point5Fields(unittest.TestCase):
    def test_fields_in_lowest_terms(self):
        prices = two_sign_prices()
        self.assertEqual(prices.signs, "xy")
        self.assertEqual(prices.pairs, (((0, 1), (3, 2)), ((-1, 3), (2, 1))))
        self.assertEqual(prices.opening, (1, 2))
        self.assertEqual(prices.more, (-3, 2))

    def test_pairs_is_a_tuple_of_tuples_of_tuples(self):
        prices = two_sign_prices()
        self.assertIs(type(prices.pairs), tuple)
        for row in prices.pairs:
            self.assertIs(type(row), tuple)
            for price in row:
                self.assertIs(type(price), tuple)

    def test_lists_changed_later_change_nothing(self):
        pairs = [[(1, 1), (2, 1)], [(3, 1), (4, 1)]]
        prices = Prices("ab", pairs, (1, 1), (1, 1))
        pairs[0][1] = (9, 7)
        pairs[1].append((5, 1))
        pairs.append([])
        self.assertEqual(prices.pairs, (((1, 1), (2, 1)), ((3, 1), (4, 1))))
        self.assertEqual(unit_of(prices), 1)
        self.assertEqual(pair_cost(prices, "a", "b"), 2)

    def test_what_is_handed_in_is_not_changed(self):
        pairs = [[(2, 2), (2, 4)], [(3, 1), (4, 8)]]
        Prices("ab", pairs, (2, 4), (1, 1))
        self.assertEqual(pairs, [[(2, 2), (2, 4)], [(3, 1), (4, 8)]])

    def test_tuples_where_lists_are_told(self):
        of_lists = Prices("ab", [[(1, 2), (2, 1)], [(3, 1), (4, 1)]], (1, 3), (1, 1))
        of_tuples = Prices("ab", (((1, 2), (2, 1)), ((3, 1), (4, 1))), (1, 3), (1, 1))
        mixed = Prices("ab", [((1, 2), (2, 1)), [(3, 1), (4, 1)]], (1, 3), (1, 1))
        self.assertEqual(of_tuples.pairs, of_lists.pairs)
        self.assertEqual(mixed.pairs, of_lists.pairs)
        self.assertEqual(unit_of(of_tuples), 6)

    def test_signs_keep_the_order_of_the_text(self):
        prices = Prices("ba", [[(1, 1), (2, 1)], [(3, 1), (4, 1)]], (0, 1), (0, 1))
        self.assertEqual(prices.signs, "ba")
        self.assertEqual(pair_cost(prices, "b", "b"), 1)
        self.assertEqual(pair_cost(prices, "b", "a"), 2)
        self.assertEqual(pair_cost(prices, "a", "b"), 3)
        self.assertEqual(pair_cost(prices, "a", "a"), 4)

    def test_one_sign(self):
        self.assertEqual(Prices("q", [[(2, 4)]], (0, 3), (1, 1)).pairs, (((1, 2),),))

    def test_every_sign_of_the_document_is_one(self):
        self.assertEqual(len(ALL_SIGNS), 92)
        for sign in ALL_SIGNS:
            self.assertEqual(even_prices(sign).signs, sign)

    def test_twelve_signs_and_forty_figures(self):
        signs = " !#$&'(~}|{z"
        pairs = [[(LONG + i * 12 + j, 999 - i) for j in range(12)] for i in range(12)]
        prices = Prices(signs, pairs, (-LONG, 997), (LONG, 1))
        for i in range(12):
            for j in range(12):
                value = Fraction(*pairs[i][j])
                self.assertEqual(prices.pairs[i][j], (value.numerator, value.denominator))
                self.assertEqual(pair_cost(prices, signs[i], signs[j]), value * unit_of(prices))


class Point5Refusals(unittest.TestCase):
    def refused(self, signs, pairs, opening=(1, 1), more=(1, 1)):
        with self.assertRaises(NoPrices):
            Prices(signs, pairs, opening, more)

    def test_no_sign(self):
        self.refused("", [])

    def test_a_sign_that_is_none(self):
        for sign in ("-", "%", '"', "\n", "\t", "\r", "\x00", "\x1f", "\x7f", "\x80", "\u00e9", "\u2014"):
            with self.subTest(sign=sign):
                self.refused(sign, [[(1, 1)]])
                self.refused("a" + sign, [[(1, 1), (1, 1)], [(1, 1), (1, 1)]])
                self.refused(sign + "a", [[(1, 1), (1, 1)], [(1, 1), (1, 1)]])

    def test_a_sign_twice(self):
        self.refused("aa", [[(1, 1), (1, 1)], [(1, 1), (1, 1)]])
        three = [[(1, 1)] * 3 for _ in range(3)]
        self.refused("aba", three)
        self.refused("bb ", three)
        self.assertEqual(Prices("aAb", three, (1, 1), (1, 1)).signs, "aAb")

    def test_a_list_too_many_or_too_few(self):
        self.refused("ab", [[(1, 1), (1, 1)]])
        self.refused("ab", [])
        self.refused("ab", [[(1, 1), (1, 1)], [(1, 1), (1, 1)], [(1, 1), (1, 1)]])

    def test_a_price_too_many_or_too_few(self):
        good = [(1, 1), (1, 1)]
        for bad in ([], [(1, 1)], [(1, 1), (1, 1), (1, 1)]):
            self.refused("ab", [good, bad])
            self.refused("ab", [bad, good])

    def test_an_under_below_one_in_a_pair(self):
        for under in (0, -1, -7):
            for i in range(2):
                for j in range(2):
                    pairs = [[(1, 1), (1, 1)], [(1, 1), (1, 1)]]
                    pairs[i][j] = (1, under)
                    self.refused("ab", pairs)
                    pairs[i][j] = (0, under)
                    self.refused("ab", pairs)

    def test_an_under_below_one_in_opening_and_more(self):
        for under in (0, -1, -7):
            for over in (0, 1, -7):
                self.refused("a", [[(1, 1)]], opening=(over, under))
                self.refused("a", [[(1, 1)]], more=(over, under))


class Point6Units(unittest.TestCase):
    def test_unit_is_the_least(self):
        self.assertEqual(unit_of(two_sign_prices()), 6)
        self.assertEqual(unit_of(even_prices("ab")), 1)
        self.assertEqual(unit_of(even_prices("ab", price=(1, 4), opening=(1, 6), more=(1, 1))), 12)
        self.assertEqual(unit_of(even_prices("ab", price=(-1, 4))), 4)

    def test_unit_is_of_prices_in_lowest_terms(self):
        self.assertEqual(unit_of(even_prices("a", price=(2, 4), opening=(0, 7), more=(9, 3))), 2)

    def test_each_price_counts_for_the_unit(self):
        self.assertEqual(unit_of(even_prices("a", opening=(1, 5))), 5)
        self.assertEqual(unit_of(even_prices("a", more=(1, 7))), 7)
        for i in range(2):
            for j in range(2):
                pairs = [[(1, 1), (1, 1)], [(1, 1), (1, 1)]]
                pairs[i][j] = (1, 9)
                self.assertEqual(unit_of(Prices("ab", pairs, (1, 1), (1, 1))), 9)

    def test_unit_of_prices_of_nought(self):
        self.assertEqual(unit_of(even_prices("ab", price=(0, 3), opening=(0, 4), more=(0, 5))), 1)

    def test_unit_is_the_least_of_all_that_do(self):
        for unders in ((2, 3, 4), (6, 10, 15), (8, 12, 1), (9, 6, 4), (5, 5, 5)):
            prices = even_prices("ab", (1, unders[0]), (-1, unders[1]), (1, unders[2]))
            unit = 1
            while any(unit % under for under in unders):
                unit += 1
            self.assertEqual(unit_of(prices), unit)

    def test_costs_in_units(self):
        prices = two_sign_prices()
        self.assertEqual(pair_cost(prices, "x", "x"), 0)
        self.assertEqual(pair_cost(prices, "x", "y"), 9)
        self.assertEqual(pair_cost(prices, "y", "x"), -2)
        self.assertEqual(pair_cost(prices, "y", "y"), 12)
        self.assertEqual(opening_cost(prices), 3)
        self.assertEqual(more_cost(prices), -9)

    def test_costs_in_units_are_whole_numbers(self):
        prices = two_sign_prices()
        for cost in (unit_of(prices), pair_cost(prices, "y", "x"), opening_cost(prices), more_cost(prices)):
            self.assertIs(type(cost), int)

    def test_in_units(self):
        prices = two_sign_prices()
        self.assertEqual(in_units(prices, 0), (0, 1))
        self.assertEqual(in_units(prices, 1), (1, 6))
        self.assertEqual(in_units(prices, 9), (3, 2))
        self.assertEqual(in_units(prices, 12), (2, 1))
        self.assertEqual(in_units(prices, -4), (-2, 3))
        self.assertEqual(in_units(even_prices("a"), LONG), (LONG, 1))

    def test_in_units_goes_back_from_costs(self):
        prices = two_sign_prices()
        self.assertEqual(in_units(prices, opening_cost(prices)), prices.opening)
        self.assertEqual(in_units(prices, more_cost(prices)), prices.more)
        for i, one in enumerate("xy"):
            for j, other in enumerate("xy"):
                self.assertEqual(in_units(prices, pair_cost(prices, one, other)), prices.pairs[i][j])

    def test_asking_changes_nothing(self):
        prices = two_sign_prices()
        for _ in range(2):
            self.assertEqual(unit_of(prices), 6)
            self.assertEqual(pair_cost(prices, "x", "y"), 9)
            self.assertEqual(in_units(prices, 9), (3, 2))
        self.assertEqual(prices.pairs, two_sign_prices().pairs)

    def test_prices_do_not_disturb_one_another(self):
        one = even_prices("ab", price=(1, 2))
        other = even_prices("ab", price=(1, 3))
        self.assertEqual((unit_of(one), unit_of(other)), (2, 3))
        self.assertEqual((opening_cost(one), opening_cost(other)), (4, 6))


class InterfaceSameBothWays(unittest.TestCase):
    def test_one_sign_is_the_same_both_ways(self):
        self.assertIs(same_both_ways(even_prices("a")), True)

    def test_same_in_lowest_terms(self):
        prices = Prices("ab", [[(1, 1), (2, 4)], [(1, 2), (7, 1)]], (1, 1), (2, 1))
        self.assertIs(same_both_ways(prices), True)

    def test_not_the_same(self):
        self.assertIs(same_both_ways(two_sign_prices()), False)
        prices = Prices("ab", [[(1, 1), (-2, 1)], [(2, 1), (1, 1)]], (1, 1), (1, 1))
        self.assertIs(same_both_ways(prices), False)

    def test_each_pair_is_looked_at(self):
        for i in range(4):
            for j in range(4):
                pairs = [[(1, 1)] * 4 for _ in range(4)]
                pairs[i][j] = (3, 1)
                prices = Prices("abcd", pairs, (1, 1), (1, 1))
                self.assertIs(same_both_ways(prices), i == j)


if __name__ == "__main__":
    unittest.main()
