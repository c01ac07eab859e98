"""Blocks of many rows with gaps: their rows, their columns and what they cost."""

from gapweave.errors import NoBlock, NoRow
from gapweave.layings import STEPS, check_known, place_behind
from gapweave.prices import are_signs, in_units, more_cost, pair_cost

GAP = "-"


def things_at(texts, place):
    return "".join([text[place] for text in texts])


# Rows turned are columns, and columns turned are rows; how many is told, since of no columns it can't be seen.
def turned(texts, many):
    return [things_at(texts, place) for place in range(many)]


def columns_of(rows):
    return turned(rows, len(rows[0]))


# One behind the other, as the moves tell; a row's text serves as the columns of that row alone.
def laid_columns(ones, others, one_gaps, other_gaps, moves):
    columns = []
    place = (0, 0)
    for move in moves:
        step = STEPS[move]
        left = ones[place[0]] if step[0] == 1 else one_gaps
        right = others[place[1]] if step[1] == 1 else other_gaps
        columns.append(left + right)
        place = place_behind(place, move)
    return columns


def is_gaps(column):
    return column == GAP * len(column)


def signs_of(things):
    return things.replace(GAP, "")


def check_lengths(rows):
    if len(rows) == 0:
        raise NoBlock("there is no row")
    for row in rows:
        if len(row) != len(rows[0]):
            raise NoBlock("the rows have not all one length")


def are_things(row):
    return are_signs(signs_of(row))


def check_things(rows):
    for row in rows:
        if not are_things(row):
            raise NoBlock("a thing is neither a sign nor a gap")


def check_columns(rows):
    for column in columns_of(rows):
        if is_gaps(column):
            raise NoBlock("a column has gaps alone")


class Block:
    def __init__(self, rows):
        check_lengths(rows)
        check_things(rows)
        check_columns(rows)
        self.rows = tuple(rows)


def check_row(block, row):
    if not 0 <= row < len(block.rows):
        raise NoRow("there is no such row")


def bare(block, row):
    check_row(block, row)
    return signs_of(block.rows[row])


def alone(text):
    return Block([text])


def other_rows(block, row):
    return block.rows[:row] + block.rows[row + 1:]


def without(block, row):
    check_row(block, row)
    if len(block.rows) == 1:
        raise NoRow("there is no other row")
    others = other_rows(block, row)
    columns = [column for column in columns_of(others) if not is_gaps(column)]
    return Block(turned(columns, len(others)))


def check_block_rows(prices, rows):
    check_known(prices.signs + GAP, rows)


def thing_cost(prices, one, other):
    if one == GAP and other == GAP:
        return 0
    if one == GAP or other == GAP:
        return more_cost(prices)
    return pair_cost(prices, one, other)


def column_cost(prices, column):
    cost = 0
    for row, other in enumerate(column):
        cost = cost + sum([thing_cost(prices, one, other) for one in column[:row]])
    return cost


def block_units(prices, block):
    return sum([column_cost(prices, column) for column in columns_of(block.rows)])


def block_cost(prices, block):
    check_block_rows(prices, block.rows)
    return in_units(prices, block_units(prices, block))
