"""Blocks joined: the cheapest joining of two, a paper that none costs less, and rows laid along a tree.

An extra is what two columns cost beside one another beyond what both cost alone. Rests are what the extras of the moves
that are still to come add up to at the least, by the columns of both blocks that lie behind.
"""

from gapweave.blocks import (
    GAP, Block, alone, block_units, check_block_rows, columns_of, laid_columns, signs_of, turned)
from gapweave.errors import NoTree
from gapweave.kinds import is_pair, is_whole
from gapweave.layings import check_rows, place_behind
from gapweave.prices import more_cost, pair_cost


# Gaps beside gaps cost nought, so only the column's signs count.
def cost_by_gaps(prices, column, many):
    return len(signs_of(column)) * many * more_cost(prices)


def costs_by_gaps(prices, columns, many):
    return [cost_by_gaps(prices, column, many) for column in columns]


# A sign costs beside a gap what it costs alone, so only signs beside signs make an extra.
def sign_extras(prices, signs):
    extras = {}
    for other in prices.signs:
        extras[other] = sum([pair_cost(prices, one, other) - 2 * more_cost(prices) for one in signs])
    return extras


def extras_beside(prices, signs, others):
    extras = sign_extras(prices, signs)
    return [sum([extras[sign] for sign in other]) for other in others]


def all_extras(prices, ones, others):
    # By their signs, since columns with the same ones are in plenty where there are few rows.
    known = {}
    for signs in ones:
        if signs not in known:
            known[signs] = extras_beside(prices, signs, others)
    return [known[signs] for signs in ones]


def rests_ahead(extras, below):
    rests = [0]
    for j in range(len(extras) - 1, -1, -1):
        least = min(below[j], rests[-1])
        # Columns that cost more beside one another than alone are better laid alone, so no sum is needed there.
        if extras[j] <= 0:
            least = min(extras[j] + below[j + 1], least)
        rests.append(least)
    rests.reverse()
    return rests


def join_rests(extras, many):
    rests = [[0] * (many + 1)]
    for row in reversed(extras):
        rests.append(rests_ahead(row, rests[-1]))
    rests.reverse()
    return rests


class Joining:
    def __init__(self, prices, one, other):
        check_block_rows(prices, one.rows + other.rows)
        self.ones = columns_of(one.rows)
        self.others = columns_of(other.rows)
        self.one_gaps = GAP * len(one.rows)
        self.other_gaps = GAP * len(other.rows)
        self.by_a = costs_by_gaps(prices, self.ones, len(other.rows))
        self.by_b = costs_by_gaps(prices, self.others, len(one.rows))
        ones = [signs_of(column) for column in self.ones]
        others = [signs_of(column) for column in self.others]
        self.extras = all_extras(prices, ones, others)
        self.rests = join_rests(self.extras, len(self.others))


# What the joining adds to what both blocks cost alone.
def least_added(joining):
    return sum(joining.by_a) + sum(joining.by_b) + joining.rests[0][0]


def first_move(joining, i, j):
    if i == len(joining.ones):
        return "b"
    rest = joining.rests[i][j]
    below = joining.rests[i + 1]
    if j < len(joining.others) and joining.extras[i][j] + below[j + 1] == rest:
        return "p"
    return "a" if below[j] == rest else "b"


def first_moves(joining):
    place = (0, 0)
    moves = []
    while place != (len(joining.ones), len(joining.others)):
        move = first_move(joining, place[0], place[1])
        moves.append(move)
        place = place_behind(place, move)
    return moves


def joined_block(joining):
    moves = first_moves(joining)
    columns = laid_columns(joining.ones, joining.others, joining.one_gaps, joining.other_gaps, moves)
    return Block(turned(columns, len(joining.one_gaps + joining.other_gaps)))


def joined(prices, one, other):
    return joined_block(Joining(prices, one, other))


def sums_behind(costs):
    sums = [0]
    for cost in costs:
        sums.append(sums[-1] + cost)
    return sums


def join_paper(prices, one, other):
    joining = Joining(prices, one, other)
    own = block_units(prices, one) + block_units(prices, other)
    by_b = sums_behind(joining.by_b)
    paper = []
    for by_a, rests in zip(sums_behind(joining.by_a), joining.rests):
        # A move lessens the rest by at most its extra, so the number grows by at most what the move adds.
        number = own + by_a + joining.rests[0][0]
        paper.append([number + cost - rest for cost, rest in zip(by_b, rests)])
    return paper


def check_number(part, many, seen):
    if not is_whole(part):
        # No refusal here shows the part, since it may be too deep or too long for that.
        raise NoTree("a part is neither a number nor a pair")
    if not 0 <= part < many:
        raise NoTree("a number is none of a row")
    if part in seen:
        raise NoTree("a row stands twice")


# Each pair stands as None behind its two parts, so that these are laid when it is its turn.
def tree_order(tree, many):
    order = []
    seen = {}
    waiting = [tree]
    # A list of what waits in the place of calls within calls, so that nothing hangs on how deep a tree is.
    while len(waiting) > 0:
        part = waiting.pop()
        if is_pair(part):
            order.append(None)
            waiting.extend(part)
        else:
            check_number(part, many, seen)
            seen[part] = True
            order.append(part)
    if len(seen) < many:
        raise NoTree("a row is wanting")
    order.reverse()
    return order


def joined_laid(prices, left, right):
    return (left[0] + right[0], joined(prices, left[1], right[1]))


def laid_by(prices, rows, tree):
    check_rows(prices, rows)
    laid = []
    for number in tree_order(tree, len(rows)):
        if number is None:
            right = laid.pop()
            left = laid.pop()
            laid.append(joined_laid(prices, left, right))
        else:
            laid.append(([number], alone(rows[number])))
    numbers = laid[0][0]
    block = laid[0][1]
    return Block([row for number, row in sorted(zip(numbers, block.rows))])
