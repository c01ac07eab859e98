"""Layings of two rows: where they end, what they cost, and which manners they are of."""

from gapweave.errors import NoLaying, NoManner, NoSign
from gapweave.prices import in_units, more_cost, opening_cost, pair_cost

MANNERS = ("whole", "within", "over", "stretch")
STEPS = {"p": (1, 1), "a": (1, 0), "b": (0, 1)}


def check_known(known, rows):
    for number, row in enumerate(rows):
        for place, sign in enumerate(row):
            if sign not in known:
                raise NoSign(number, place)


def check_rows(prices, rows):
    check_known(prices.signs, rows)


def check_manner(manner):
    if manner not in MANNERS:
        raise NoManner(f"{manner!r} is no manner")


def check_place(first, second, place):
    if not (0 <= place[0] <= len(first) and 0 <= place[1] <= len(second)):
        raise NoLaying("it goes before or beyond the rows")


def place_behind(place, move):
    if move not in STEPS:
        raise NoLaying(f"{move!r} is no move")
    step = STEPS[move]
    return (place[0] + step[0], place[1] + step[1])


def places_of(first, second, begin, moves):
    place = (begin[0], begin[1])
    check_place(first, second, place)
    places = [place]
    for move in moves:
        place = place_behind(place, move)
        check_place(first, second, place)
        places.append(place)
    return places


def alone_cost(prices, move, came):
    if move == came:
        return more_cost(prices)
    return opening_cost(prices) + more_cost(prices)


def end_of(prices, first, second, begin, moves):
    check_rows(prices, [first, second])
    return places_of(first, second, begin, moves)[-1]


def cost_of(prices, first, second, begin, moves):
    check_rows(prices, [first, second])
    places = places_of(first, second, begin, moves)
    cost = 0
    came = ""
    for place, move in zip(places, moves):
        if move == "p":
            cost = cost + pair_cost(prices, first[place[0]], second[place[1]])
        else:
            cost = cost + alone_cost(prices, move, came)
        came = move
    return in_units(prices, cost)


def may_begin(manner, place):
    if manner == "whole":
        return place[0] == 0 and place[1] == 0
    if manner == "within":
        return place[0] == 0
    if manner == "over":
        return place[1] == 0
    return True


def may_end(manner, first, second, place):
    if manner == "whole":
        return place[0] == len(first) and place[1] == len(second)
    if manner == "stretch":
        return True
    return place[0] == len(first)


def fits(prices, first, second, begin, moves, manner):
    check_rows(prices, [first, second])
    check_manner(manner)
    end = places_of(first, second, begin, moves)[-1]
    return may_begin(manner, begin) and may_end(manner, first, second, end)
