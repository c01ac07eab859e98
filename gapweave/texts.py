"""Fractions, prices, blocks and layings as texts: written, and read again."""

from gapweave.blocks import GAP, Block, are_things, bare, columns_of, laid_columns, turned
from gapweave.errors import NoLaying, NoPrices, NoText
from gapweave.fractions import lowest
from gapweave.layings import may_end, places_of
from gapweave.prices import Prices, check_signs

LINE_END = "\n"
BETWEEN = " "
LINE = "/"
BELOW_NOUGHT = "-"
FIGURES = "0123456789"
MOST_FIGURES = 60


# In parts, since Python itself does not write a number of some thousand figures at once.
def written_number(number):
    parts = []
    limit = 10 ** 60
    while number >= limit:
        parts.append(str(number % limit).zfill(60))
        number = number // limit
    parts.append(str(number))
    parts.reverse()
    return "".join(parts)


def written_fraction(fraction):
    told = lowest(fraction)
    ahead = BELOW_NOUGHT if told[0] < 0 else ""
    behind = LINE + written_number(told[1]) if told[1] > 1 else ""
    return ahead + written_number(abs(told[0])) + behind


def written_fractions(fractions):
    return BETWEEN.join([written_fraction(fraction) for fraction in fractions])


def written_prices(prices):
    rows = [prices.signs]
    rows.extend([written_fractions(row) for row in prices.pairs])
    rows.append(written_fractions([prices.opening, prices.more]))
    return LINE_END.join(rows)


def written_block(block):
    return LINE_END.join(block.rows)


def written_laying(first, second, moves):
    end = places_of(first, second, (0, 0), moves)[-1]
    if not may_end("whole", first, second, end):
        raise NoLaying("it does not go to both rows' ends")
    columns = laid_columns(first, second, GAP, GAP, moves)
    return written_block(Block(turned(columns, 2)))


def is_figures(text):
    return 1 <= len(text) <= MOST_FIGURES and all([sign in FIGURES for sign in text])


# None where the text is no fraction, since only the asker knows which row it stands in.
def read_fraction(text):
    parts = text.split(LINE)
    below = text.startswith(BELOW_NOUGHT)
    parts[0] = parts[0][1:] if below else parts[0]
    if len(parts) > 2 or not all([is_figures(part) for part in parts]):
        return None
    over = int(parts[0])
    under = int(parts[1]) if len(parts) == 2 else 1
    if under < 1:
        return None
    fraction = (-over if below else over, under)
    # Written again it is just this text, unless it had a nought ahead, was not in lowest terms or the like.
    return fraction if written_fraction(fraction) == text else None


def read_signs(row):
    try:
        check_signs(row)
    except NoPrices:
        raise NoText(0) from None
    return row


def read_fractions(rows, line, many):
    # A row that is wanting has the number of rows for its number, where those ahead are all there.
    if line >= len(rows):
        raise NoText(line)
    fractions = [read_fraction(part) for part in rows[line].split(BETWEEN)]
    if len(fractions) != many or None in fractions:
        raise NoText(line)
    return fractions


def read_prices(text):
    rows = text.split(LINE_END)
    signs = read_signs(rows[0])
    pairs = [read_fractions(rows, place + 1, len(signs)) for place in range(len(signs))]
    ends = read_fractions(rows, len(signs) + 1, 2)
    if len(rows) > len(signs) + 2:
        raise NoText(len(signs) + 2)
    return Prices(signs, pairs, ends[0], ends[1])


def read_block(text):
    rows = text.split(LINE_END)
    for line, row in enumerate(rows):
        if len(row) != len(rows[0]) or not are_things(row):
            raise NoText(line)
    return Block(rows)


def check_two_rows(text):
    if text.count(LINE_END) != 1:
        raise NoText(2)


def move_of(column):
    if column[1] == GAP:
        return "a"
    return "b" if column[0] == GAP else "p"


def read_laying(text):
    check_two_rows(text)
    block = read_block(text)
    moves = "".join([move_of(column) for column in columns_of(block.rows)])
    return (bare(block, 0), bare(block, 1), moves)
