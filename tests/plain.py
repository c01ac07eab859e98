"""Plain reckoning that the tests hold the program's answers against: by listing, and by tables of another kind."""

import inspect
import itertools
import math
import random
import sys
from fractions import Fraction

from gapweave.prices import Prices

MANNERS = ("whole", "within", "over", "stretch")
LONG = 10 ** 39 + 7
FIGURES = "9" * 40

# By kind: whole and not the same both ways, the same both ways, broken, nought, below nought, forty figures, and
# openings and more's of both sides of nought.
PRICE_KINDS = {
    "whole": Prices("xy", [[(0, 1), (3, 1)], [(2, 1), (1, 1)]], (2, 1), (1, 1)),
    "same both ways": Prices("xy", [[(0, 1), (2, 1)], [(2, 1), (0, 1)]], (0, 1), (1, 1)),
    "broken": Prices("xy", [[(-1, 3), (5, 2)], [(7, 6), (0, 1)]], (3, 4), (1, 12)),
    "nought": Prices("xy", [[(0, 1), (0, 1)], [(0, 1), (0, 1)]], (0, 1), (0, 1)),
    "below nought": Prices("xy", [[(-3, 1), (1, 1)], [(-1, 1), (-2, 1)]], (2, 1), (-1, 1)),
    "all below nought": Prices("xy", [[(-2, 1), (-1, 1)], [(-1, 1), (-2, 1)]], (-1, 1), (-1, 1)),
    "opening below nought": Prices("xy", [[(0, 1), (3, 1)], [(4, 1), (-1, 1)]], (-2, 1), (1, 1)),
    "opening evened out": Prices("xy", [[(0, 1), (0, 1)], [(0, 1), (1, 1)]], (-1, 1), (1, 1)),
    "forty figures": Prices(
        "xy", [[(-int(FIGURES), 999), (LONG, 998)], [(LONG, 997), (-LONG, 991)]], (LONG, 2), (-LONG, 983)),
}


def rows_up_to(signs, most):
    return ["".join(row) for many in range(most + 1) for row in itertools.product(signs, repeat=many)]


def ways_from(place, end):
    """All texts of moves from a place, with where they end."""
    found = [("", place)]
    for moves, (i, j) in found:
        if i < end[0] and j < end[1]:
            found.append((moves + "p", (i + 1, j + 1)))
        if i < end[0]:
            found.append((moves + "a", (i + 1, j)))
        if j < end[1]:
            found.append((moves + "b", (i, j + 1)))
    return found


def all_layings(first, second):
    lengths = (len(first), len(second))
    for begin in itertools.product(range(len(first) + 1), range(len(second) + 1)):
        for moves, end in ways_from(begin, lengths):
            yield begin, moves, end


def manners_of(first, second, begin, end):
    """The manners that a laying from begin to end is of."""
    found = ["stretch"]
    if begin[1] == 0 and end[0] == len(first):
        found.append("over")
    if begin[0] == 0 and end[0] == len(first):
        found.append("within")
    if begin == (0, 0) and end == (len(first), len(second)):
        found.append("whole")
    return found


def price_of(prices, one, other):
    return Fraction(*prices.pairs[prices.signs.index(one)][prices.signs.index(other)])


def cost_by_stretches(prices, first, second, begin, moves):
    i, j = begin
    cost = Fraction(0)
    for move, stretch in itertools.groupby(moves):
        many = len(list(stretch))
        if move != "p":
            cost += Fraction(*prices.opening) + many * Fraction(*prices.more)
            i, j = (i + many, j) if move == "a" else (i, j + many)
            continue
        for _ in range(many):
            cost += price_of(prices, first[i], second[j])
            i, j = i + 1, j + 1
    return (cost.numerator, cost.denominator)


def as_tuple(fraction):
    return (fraction.numerator, fraction.denominator)


def by_order(moves):
    """A text that stands before another one where the moves come first."""
    return moves.translate(str.maketrans("pab", "012"))


def by_number(text):
    return text.translate(str.maketrans("012", "pab"))


def cheapest_by_table(prices, first, second, manner):
    """The cheapest laying and how many cost as little, by a table that goes forwards and keeps whole layings."""
    opening, more = Fraction(*prices.opening), Fraction(*prices.more)
    best, many = {}, {}

    def come(state, laying, count):
        if state not in best or laying[0] < best[state][0]:
            many[state] = 0
        if state not in best or laying < best[state]:
            best[state] = laying
        if laying[0] == best[state][0]:
            many[state] += count

    ends = []
    for i, j in itertools.product(range(len(first) + 1), range(len(second) + 1)):
        if (i, j) == (0, 0) or manner == "stretch" or (manner, i) == ("within", 0) or (manner, j) == ("over", 0):
            come((i, j, "0"), (Fraction(0), (i, j), ""), 1)
        for came in "012":
            if (i, j, came) not in best:
                continue
            cost, begin, moves = best[i, j, came]
            count = many[i, j, came]
            if manner in manners_of(first, second, begin, (i, j)):
                ends.append((best[i, j, came], count))
            if i < len(first) and j < len(second):
                step = price_of(prices, first[i], second[j])
                come((i + 1, j + 1, "0"), (cost + step, begin, moves + "0"), count)
            if i < len(first):
                step = more + (0 if came == "1" else opening)
                come((i + 1, j, "1"), (cost + step, begin, moves + "1"), count)
            if j < len(second):
                step = more + (0 if came == "2" else opening)
                come((i, j + 1, "2"), (cost + step, begin, moves + "2"), count)
    cost, begin, moves = min(laying for laying, _ in ends)
    return (as_tuple(cost), begin, by_number(moves)), sum(count for laying, count in ends if laying[0] == cost)


def some_prices(source, signs, least=-2, most=3, unders=(1, 1, 2)):
    def price():
        return (source.randint(least, most), source.choice(unders))
    return Prices(signs, [[price() for _ in signs] for _ in signs], price(), price())


def some_row(source, signs, many):
    return "".join(source.choice(signs) for _ in range(many))


def large_prices(signs="abcdefghijkl", seed=7):
    """Prices at the bounds: twelve signs, forty figures over and three under the line, many unlike unders."""
    most = 10 ** 40 - 1
    return some_prices(random.Random(seed), signs, -most, most, range(900, 1000))


def few_calls_deep(ask, deep=40):
    """The answer, or a RecursionError where calls go deeper than so many."""
    limit = sys.getrecursionlimit()
    sys.setrecursionlimit(len(inspect.stack(0)) + deep)
    try:
        return ask()
    finally:
        sys.setrecursionlimit(limit)


def refusal(ask):
    """The class and the fields of what an asking is refused with."""
    try:
        told = ask()
    except ValueError as error:
        return type(error).__name__, dict(vars(error))
    raise AssertionError(f"not refused: {told!r}")


def plain_block_cost(prices, rows):
    cost = Fraction(0)
    for column in zip(*rows):
        for one, other in itertools.combinations(column, 2):
            if one != "-" and other != "-":
                cost += price_of(prices, one, other)
            elif one != other:
                cost += Fraction(*prices.more)
    return cost


def joining_by(one, other, moves):
    """The rows of two lists of rows, joined by moves."""
    rows = [""] * (len(one) + len(other))
    i = j = 0
    for move in moves:
        left = [row[i] for row in one] if move in "pa" else ["-"] * len(one)
        right = [row[j] for row in other] if move in "pb" else ["-"] * len(other)
        rows = [row + thing for row, thing in zip(rows, left + right)]
        i, j = i + (move in "pa"), j + (move in "pb")
    return rows


def all_joinings(one, other):
    end = (len(one[0]), len(other[0]))
    for moves, place in ways_from((0, 0), end):
        if place == end:
            yield moves, joining_by(one, other, moves)


def joined_by_listing(prices, one, other):
    return min(
        all_joinings(one, other), key=lambda joining: (plain_block_cost(prices, joining[1]), by_order(joining[0])))[1]


def some_block(source, signs, many, columns):
    """Rows of a block, some with gaps; no column has gaps alone."""
    found = []
    while len(found) < columns:
        column = [source.choice(signs + "--") for _ in range(many)]
        if set(column) != {"-"}:
            found.append(column)
    return ["".join(column[row] for column in found) for row in range(many)]


def both_ways(prices):
    """The prices made the same both ways."""
    many = range(len(prices.signs))
    pairs = [[prices.pairs[min(i, j)][max(i, j)] for j in many] for i in many]
    return Prices(prices.signs, pairs, prices.opening, prices.more)


def sixty_figures(source, signs):
    """Prices that can be read of a text, at the bounds: sixty figures over and under the line."""
    def price():
        over, under = source.randint(10 ** 59, 10 ** 60 - 1), source.randint(10 ** 59, 10 ** 60 - 1)
        while math.gcd(over, under) != 1:
            under -= 1
        return (source.choice((-1, 1)) * over, under)
    return Prices(signs, [[price() for _ in signs] for _ in signs], price(), price())


def plain_without(rows, row):
    """The other rows, without the columns that have gaps alone then."""
    others = [text for number, text in enumerate(rows) if number != row]
    columns = [column for column in zip(*others) if set(column) != {"-"}]
    return ["".join(column[number] for column in columns) for number in range(len(others))]


def laid_anew_by_listing(prices, rows, row):
    laid = joined_by_listing(prices, [rows[row].replace("-", "")], plain_without(rows, row))
    return laid[1:row + 1] + laid[:1] + laid[row + 1:]


def number_of(text):
    """A number of however many figures, read figure by figure, since Python reads only some thousand at once."""
    value = 0
    for figure in text.lstrip("-"):
        value = value * 10 + "0123456789".index(figure)
    return -value if text.startswith("-") else value


def fraction_of(text):
    over, _, under = text.partition("/")
    return (number_of(over), number_of(under or "1"))
