"""Prices: what signs cost beside one another and alone, as fractions and in units."""

from gapweave.errors import NoPrices
from gapweave.fractions import greatest_divisor, lowest

FIRST_SIGN = 32
LAST_SIGN = 126
# By number, since the percent sign can't stand in a text of the program: it, the quote and the gap.
NO_SIGNS = (34, 37, 45)


def is_sign(sign):
    number = ord(sign)
    return FIRST_SIGN <= number <= LAST_SIGN and number not in NO_SIGNS


def are_signs(text):
    return all([is_sign(sign) for sign in text])


def check_signs(signs):
    if len(signs) == 0:
        raise NoPrices("there is no sign")
    if not are_signs(signs):
        raise NoPrices("a sign is none")
    if len(set(signs)) != len(signs):
        raise NoPrices("a sign comes twice")


def check_lengths(signs, pairs):
    if len(pairs) != len(signs):
        raise NoPrices("not as many lists of prices as signs")
    for row in pairs:
        if len(row) != len(signs):
            raise NoPrices("not as many prices in a list as signs")


def lowest_price(price):
    if price[1] < 1:
        raise NoPrices("a price has less than 1 under the line")
    return lowest(price)


def lowest_prices(row):
    return tuple([lowest_price(price) for price in row])


def all_unders(pairs, opening, more):
    unders = [opening[1], more[1]]
    for row in pairs:
        unders.extend([price[1] for price in row])
    return unders


# The unit as numbers above 1 that multiply to it: for each under what those ahead of it don't yet hold.
def unit_factors(unders):
    factors = []
    unit = 1
    for under in unders:
        factor = under // greatest_divisor(unit, under)
        if factor > 1:
            factors.append(factor)
            unit = unit * factor
    return factors


def product_of(factors):
    product = 1
    for factor in factors:
        product = product * factor
    return product


def by_unit(price, unit):
    return price[0] * (unit // price[1])


def costs_by_signs(signs, pairs, unit):
    costs = {}
    for one, row in zip(signs, pairs):
        for other, price in zip(signs, row):
            costs[(one, other)] = by_unit(price, unit)
    return costs


class Prices:
    def __init__(self, signs, pairs, opening, more):
        check_signs(signs)
        check_lengths(signs, pairs)
        self.signs = signs
        self.pairs = tuple([lowest_prices(row) for row in pairs])
        self.opening = lowest_price(opening)
        self.more = lowest_price(more)
        # Kept, since layings ask for them at every move.
        self.factors = unit_factors(all_unders(self.pairs, self.opening, self.more))
        self.unit = product_of(self.factors)
        self.costs = costs_by_signs(self.signs, self.pairs, self.unit)
        self.opening_units = by_unit(self.opening, self.unit)
        self.more_units = by_unit(self.more, self.unit)


def unit_of(prices):
    return prices.unit


def pair_cost(prices, one, other):
    return prices.costs[(one, other)]


def opening_cost(prices):
    return prices.opening_units


def more_cost(prices):
    return prices.more_units


def in_units(prices, number):
    over = number
    under = 1
    # Factor by factor, since the divisor with the whole unit takes long where that has thousands of figures.
    for factor in prices.factors:
        divisor = greatest_divisor(over, factor)
        over = over // divisor
        under = under * (factor // divisor)
    return (over, under)


def same_both_ways(prices):
    for i, row in enumerate(prices.pairs):
        for j, price in enumerate(row):
            if price != prices.pairs[j][i]:
                return False
    return True
