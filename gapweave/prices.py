"""Prices: what signs cost beside one another and alone, as fractions and in units."""

from gapweave.errors import NoPrices
from gapweave.fractions import least_multiple, lowest

FIRST_SIGN = 32
LAST_SIGN = 126
# By number, since the percent sign can't stand in a text of the program: it, the quote and the gap.
NO_SIGNS = (34, 37, 45)


def is_sign(sign):
    number = ord(sign)
    return FIRST_SIGN <= number <= LAST_SIGN and number not in NO_SIGNS


def check_signs(signs):
    if len(signs) == 0:
        raise NoPrices("there is no sign")
    for sign in signs:
        if not is_sign(sign):
            raise NoPrices(f"{sign!r} is no sign")
    if len(set(signs)) != len(signs):
        raise NoPrices("a sign comes twice")


def check_lengths(signs, pairs):
    if len(pairs) != len(signs):
        raise NoPrices("not as many lists of prices as signs")
    for row in pairs:
        if len(row) != len(signs):
            raise NoPrices("not as many prices in a list as signs")


def lowest_price(price):
    if price[1] < 1:
        raise NoPrices("a price has less than 1 under the line")
    return lowest(price)


def lowest_prices(row):
    return tuple([lowest_price(price) for price in row])


def common_unit(pairs, opening, more):
    unit = least_multiple(opening[1], more[1])
    for row in pairs:
        for price in row:
            unit = least_multiple(unit, price[1])
    return unit


def by_unit(price, unit):
    return price[0] * (unit // price[1])


def costs_by_signs(signs, pairs, unit):
    costs = {}
    for one, row in zip(signs, pairs):
        for other, price in zip(signs, row):
            costs[(one, other)] = by_unit(price, unit)
    return costs


class Prices:
    def __init__(self, signs, pairs, opening, more):
        check_signs(signs)
        check_lengths(signs, pairs)
        self.signs = signs
        self.pairs = tuple([lowest_prices(row) for row in pairs])
        self.opening = lowest_price(opening)
        self.more = lowest_price(more)
        # Kept, since layings ask for them at every move.
        self.unit = common_unit(self.pairs, self.opening, self.more)
        self.costs = costs_by_signs(self.signs, self.pairs, self.unit)
        self.opening_units = by_unit(self.opening, self.unit)
        self.more_units = by_unit(self.more, self.unit)


def unit_of(prices):
    return prices.unit


def pair_cost(prices, one, other):
    return prices.costs[(one, other)]


def opening_cost(prices):
    return prices.opening_units


def more_cost(prices):
    return prices.more_units


def in_units(prices, number):
    return lowest((number, prices.unit))


def same_both_ways(prices):
    for i, row in enumerate(prices.pairs):
        for j, price in enumerate(row):
            if price != prices.pairs[j][i]:
                return False
    return True
