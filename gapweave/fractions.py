"""Fractions: tuples (over, under) of whole numbers, under 1 or more, told in lowest terms."""


def greatest_divisor(one, other):
    while other != 0:
        rest = one % other
        one = other
        other = rest
    return abs(one)


def lowest(fraction):
    divisor = greatest_divisor(fraction[0], fraction[1])
    return (fraction[0] // divisor, fraction[1] // divisor)


def plus(one, other):
    return lowest((one[0] * other[1] + other[0] * one[1], one[1] * other[1]))


def times(fraction, number):
    return lowest((fraction[0] * number, fraction[1]))


def less_than(one, other):
    return one[0] * other[1] < other[0] * one[1]
