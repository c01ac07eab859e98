"""From text to answer: rows laid by prices, all of them texts."""

from gapweave.blocks import block_cost
from gapweave.cheapest import cheapest
from gapweave.errors import NoText
from gapweave.joining import laid_by
from gapweave.mending import mended
from gapweave.prices import are_signs
from gapweave.texts import LINE_END, check_two_rows, read_prices, written_block, written_fraction, written_laying


def read_rows(text):
    rows = text.split(LINE_END)
    for line, row in enumerate(rows):
        if not are_signs(row):
            raise NoText(line)
    return rows


def lay_text(prices_text, rows_text):
    prices = read_prices(prices_text)
    check_two_rows(rows_text)
    rows = read_rows(rows_text)
    laying = cheapest(prices, rows[0], rows[1])
    return written_fraction(laying[0]) + LINE_END + written_laying(rows[0], rows[1], laying[2])


def tree_in_order(many):
    tree = 0
    for number in range(1, many):
        tree = (tree, number)
    return tree


def many_text(prices_text, rows_text, most):
    prices = read_prices(prices_text)
    rows = read_rows(rows_text)
    block = mended(prices, laid_by(prices, rows, tree_in_order(len(rows))), most)[0]
    return written_fraction(block_cost(prices, block)) + LINE_END + written_block(block)
