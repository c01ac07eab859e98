"""Blocks joined: the cheapest joining of two, a paper that none costs less, and rows laid along a tree.

Rests are what the moves that are still to come add to the cost at the least, by the columns of both blocks that lie
behind.
"""

from gapweave.blocks import GAP, Block, alone, block_units, check_block_rows, columns_of, thing_cost, turned
from gapweave.errors import NoTree
from gapweave.layings import STEPS, check_rows


def costs_against(prices, column):
    costs = {}
    for thing in prices.signs + GAP:
        costs[thing] = sum([thing_cost(prices, one, thing) for one in column])
    return costs


def cost_beside(costs, column):
    return sum([costs[thing] for thing in column])


# Only what moves add is kept, since what both blocks cost alone is the same whatever the moves are.
class Adding:
    def __init__(self, prices, one, other):
        self.ones = columns_of(one.rows)
        self.others = columns_of(other.rows)
        self.one_gaps = GAP * len(one.rows)
        self.other_gaps = GAP * len(other.rows)
        # By column, since like columns are in plenty where there are few rows.
        self.by_p = {}
        self.by_a = {}
        for column in self.ones:
            if column not in self.by_a:
                costs = costs_against(prices, column)
                self.by_p[column] = [cost_beside(costs, beside) for beside in self.others]
                self.by_a[column] = cost_beside(costs, self.other_gaps)
        gap_costs = costs_against(prices, self.one_gaps)
        self.by_b = [cost_beside(gap_costs, column) for column in self.others]


def last_rests(by_b):
    rests = [0]
    for cost in reversed(by_b):
        rests.append(cost + rests[-1])
    rests.reverse()
    return rests


def rests_ahead(by_p, by_a, by_b, below):
    rests = [by_a + below[-1]]
    for j in range(len(by_b) - 1, -1, -1):
        rests.append(min(by_p[j] + below[j + 1], by_a + below[j], by_b[j] + rests[-1]))
    rests.reverse()
    return rests


def join_rests(adding):
    rests = [last_rests(adding.by_b)]
    for column in reversed(adding.ones):
        rests.append(rests_ahead(adding.by_p[column], adding.by_a[column], adding.by_b, rests[-1]))
    rests.reverse()
    return rests


def first_move(adding, rests, i, j):
    if i == len(adding.ones):
        return "b"
    column = adding.ones[i]
    if j < len(adding.others) and adding.by_p[column][j] + rests[i + 1][j + 1] == rests[i][j]:
        return "p"
    if adding.by_a[column] + rests[i + 1][j] == rests[i][j]:
        return "a"
    return "b"


def column_by(adding, move, i, j):
    step = STEPS[move]
    left = adding.ones[i] if step[0] == 1 else adding.one_gaps
    right = adding.others[j] if step[1] == 1 else adding.other_gaps
    return left + right


def joined_columns(adding, rests):
    columns = []
    i = 0
    j = 0
    while i < len(adding.ones) or j < len(adding.others):
        move = first_move(adding, rests, i, j)
        columns.append(column_by(adding, move, i, j))
        i = i + STEPS[move][0]
        j = j + STEPS[move][1]
    return columns


def checked_adding(prices, one, other):
    check_block_rows(prices, one.rows + other.rows)
    return Adding(prices, one, other)


def joined(prices, one, other):
    adding = checked_adding(prices, one, other)
    columns = joined_columns(adding, join_rests(adding))
    return Block(turned(columns, len(one.rows) + len(other.rows)))


def less_each(number, row):
    return [number - less for less in row]


def join_paper(prices, one, other):
    rests = join_rests(checked_adding(prices, one, other))
    cost = block_units(prices, one) + block_units(prices, other) + rests[0][0]
    # A move lessens the rest by at most what it adds, so what is left of the cost grows by at most as much.
    return [less_each(cost, row) for row in rests]


def is_pair(part):
    return isinstance(part, tuple) and len(part) == 2


def check_number(part, many, seen):
    if isinstance(part, bool) or not isinstance(part, int):
        # No refusal here shows the part, since it may be too deep or too long for that.
        raise NoTree("a part is neither a number nor a pair")
    if not 0 <= part < many:
        raise NoTree("a number is none of a row")
    if part in seen:
        raise NoTree("a row stands twice")


# Each pair stands as None behind its two parts, so that these are laid when it is its turn.
def tree_order(tree, many):
    order = []
    seen = {}
    waiting = [tree]
    # A list of what waits in the place of calls within calls, so that nothing hangs on how deep a tree is.
    while len(waiting) > 0:
        part = waiting.pop()
        if is_pair(part):
            order.append(None)
            waiting.extend(part)
        else:
            check_number(part, many, seen)
            seen[part] = True
            order.append(part)
    if len(seen) < many:
        raise NoTree("a row is wanting")
    order.reverse()
    return order


def joined_laid(prices, left, right):
    return (left[0] + right[0], joined(prices, left[1], right[1]))


def laid_by(prices, rows, tree):
    check_rows(prices, rows)
    laid = []
    for number in tree_order(tree, len(rows)):
        if number is None:
            right = laid.pop()
            left = laid.pop()
            laid.append(joined_laid(prices, left, right))
        else:
            laid.append(([number], alone(rows[number])))
    numbers = laid[0][0]
    block = laid[0][1]
    return Block([row for number, row in sorted(zip(numbers, block.rows))])
