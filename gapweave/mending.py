"""Rows of a block laid anew, and a block mended by this step by step."""

from gapweave.blocks import Block, alone, bare, block_units, check_block_rows, other_rows, thing_cost, without
from gapweave.errors import NoMost, NoPrices
from gapweave.joining import Joining, joined_block, least_added
from gapweave.prices import in_units, same_both_ways


def row_with_others(prices, block, row):
    return Joining(prices, alone(bare(block, row)), without(block, row))


def with_row_put_back(joining, row):
    rows = joined_block(joining).rows
    return Block(rows[1:row + 1] + rows[:1] + rows[row + 1:])


def laid_anew(prices, block, row):
    check_block_rows(prices, block.rows)
    return with_row_put_back(row_with_others(prices, block, row), row)


# What the block costs beyond what its other rows cost by themselves.
def added_by_row(prices, block, row):
    cost = 0
    for other in other_rows(block, row):
        cost = cost + sum([thing_cost(prices, one, thing) for one, thing in zip(block.rows[row], other)])
    return cost


# A step is a row's number, the block with that row laid anew, and how much less it costs.
def first_step(prices, block):
    for row in range(len(block.rows)):
        joining = row_with_others(prices, block, row)
        # The other rows cost the same either way, so only what the row adds to them is held against one another.
        less = added_by_row(prices, block, row) - least_added(joining)
        if less > 0:
            return (row, with_row_put_back(joining, row), less)
    return None


def check_mending(prices, block, most):
    check_block_rows(prices, block.rows)
    if not same_both_ways(prices):
        raise NoPrices("a pair's price is not the same both ways")
    if most < 0:
        raise NoMost("it can't be mended fewer than no times")


def mended(prices, block, most):
    check_mending(prices, block, most)
    steps = []
    # A row alone has no others with which it could be laid anew.
    if len(block.rows) == 1:
        return (block, steps)
    cost = block_units(prices, block)
    while len(steps) < most:
        step = first_step(prices, block)
        if step is None:
            break
        block = step[1]
        cost = cost - step[2]
        steps.append((step[0], in_units(prices, cost)))
    return (block, steps)
