"""The whole cheapest laying by halving the first row, with a few rows of numbers at a time.

A stop is where a laying first comes to a number of signs of the first row: j, and the move by which it came there.
A cell is for a place: by each move by which a laying may have come there what the rest costs at the least, and the
stop that this cheapest rest goes by.
"""

from gapweave.cheapest import CAME
from gapweave.errors import NoPlace
from gapweave.layings import alone_cost, check_rows, cost_of
from gapweave.prices import pair_cost


def rest_of(way):
    return way[0]


def best_way(prices, came, pair, across, under, beside):
    ways = []
    # In the order of the moves, since of ways that are as good the first one is taken.
    if "p" in across:
        ways.append((pair + across["p"][0], across["p"][1]))
    if "a" in under:
        ways.append((alone_cost(prices, "a", came) + under["a"][0], under["a"][1]))
    if "b" in beside:
        ways.append((alone_cost(prices, "b", came) + beside["b"][0], beside["b"][1]))
    return min(ways, key=rest_of, default=None)


def cell_of(prices, pair, across, under, beside):
    cell = {}
    for came in CAME:
        way = best_way(prices, came, pair, across, under, beside)
        if way is not None:
            cell[came] = way
    return cell


def last_cells(prices, second, lasts):
    cell = {}
    for came in lasts:
        cell[came] = (0, None)
    cells = [cell]
    for j in range(len(second)):
        cells.append(cell_of(prices, 0, {}, {}, cells[j]))
    cells.reverse()
    return cells


def cells_ahead(prices, sign, second, under):
    cells = [cell_of(prices, 0, {}, under[-1], {})]
    for j in range(len(second) - 1, -1, -1):
        pair = pair_cost(prices, sign, second[j])
        cells.append(cell_of(prices, pair, under[j + 1], under[j], cells[-1]))
    cells.reverse()
    return cells


def with_stops(cells):
    stopping = []
    for j, cell in enumerate(cells):
        stops = {}
        for came, way in cell.items():
            stops[came] = (way[0], (j, came))
        stopping.append(stops)
    return stopping


# Both ends are told with the moves that lead to them, since a stretch may go on beyond them.
def stop_at(prices, first, second, came, lasts, used):
    cells = last_cells(prices, second, lasts)
    if used == len(first):
        cells = with_stops(cells)
    for i in range(len(first) - 1, -1, -1):
        cells = cells_ahead(prices, first[i], second, cells)
        if used == i:
            cells = with_stops(cells)
    return cells[0][came][1]


def whole_stop(prices, first, second, used):
    return stop_at(prices, first, second, "p", CAME, used)


def place_at(prices, first, second, used):
    check_rows(prices, [first, second])
    if not 0 <= used <= len(first):
        raise NoPlace("the first row has not so many signs")
    return (used, whole_stop(prices, first, second, used)[0])


def stop_between(prices, first, second, stops, low, high, used):
    start = stops[low]
    goal = stops[high]
    # Both stops stay as they are, so what lies outside them has no say in what lies between.
    stop = stop_at(prices, first[low:high], second[start[0]:goal[0]], start[1], goal[1], used - low)
    return (start[0] + stop[0], stop[1])


def all_stops(prices, first, second):
    stops = {0: (0, "p"), len(first): whole_stop(prices, first, second, len(first))}
    spans = [(0, len(first))]
    # A list of spans in the place of calls within calls, so that nothing hangs on how deep these may go.
    while len(spans) > 0:
        span = spans.pop()
        half = (span[0] + span[1]) // 2
        if half > span[0]:
            stops[half] = stop_between(prices, first, second, stops, span[0], span[1], half)
            spans.append((span[0], half))
            spans.append((half, span[1]))
    return stops


# Nothing is left to be chosen here: but the last move none is in the first row.
def moves_between(ahead, stop):
    paired = 1 if stop[1] == "p" else 0
    return "b" * (stop[0] - ahead[0] - paired) + stop[1]


def halved(prices, first, second):
    check_rows(prices, [first, second])
    stops = all_stops(prices, first, second)
    parts = [moves_between(stops[used], stops[used + 1]) for used in range(len(first))]
    parts.append("b" * (len(second) - stops[len(first)][0]))
    moves = "".join(parts)
    return (cost_of(prices, first, second, (0, 0), moves), (0, 0), moves)
