"""Fractions: tuples (top, bottom) in lowest terms, the bottom from 1 on."""

from chancehouse.errors import NoNumber

NOUGHT = (0, 1)
ONE = (1, 1)


def is_whole(thing):
    # To Python a truth is an int; here it is no number.
    return isinstance(thing, int) and not isinstance(thing, bool)


def common_divisor(one, other):
    while other != 0:
        rest = one % other
        one = other
        other = rest
    return abs(one)


def fraction(top, bottom):
    if not is_whole(top) or not is_whole(bottom):
        raise NoNumber("a fraction is made of two whole numbers")
    if bottom == 0:
        raise NoNumber("the bottom of a fraction is not 0")
    shared = common_divisor(top, bottom)
    if bottom < 0:
        # Divided by a number below 0, the bottom comes out above it.
        shared = -shared
    return (top // shared, bottom // shared)


def shared_bottom(some):
    bottom = 1
    for one in some:
        bottom = bottom * (one[1] // common_divisor(bottom, one[1]))
    return bottom


def plus(one, other):
    return fraction(one[0] * other[1] + other[0] * one[1], one[1] * other[1])


def minus(one, other):
    return fraction(one[0] * other[1] - other[0] * one[1], one[1] * other[1])


def times(one, other):
    return fraction(one[0] * other[0], one[1] * other[1])


def over(one, other):
    # A quotient by 0 would have the bottom 0, which is refused.
    return fraction(one[0] * other[1], one[1] * other[0])


def total(some):
    gathered = NOUGHT
    for one in some:
        gathered = plus(gathered, one)
    return gathered


def less(one, other):
    # Bottoms are above 0, so they may be multiplied away.
    return one[0] * other[1] < other[0] * one[1]
