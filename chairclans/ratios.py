"""Ratios: tuples (top, bottom) in lowest terms, the bottom from 1 on [4]."""

from chairclans.errors import NoRatio


def is_whole(value):
    # Python counts the truths among its whole numbers; the program doesn't.
    return isinstance(value, int) and not isinstance(value, bool)


def common_divisor(one, other):
    greater = abs(one)
    lesser = abs(other)
    while lesser != 0:
        rest = greater % lesser
        greater = lesser
        lesser = rest
    return greater


def ratio(top, bottom):
    if not is_whole(top) or not is_whole(bottom):
        raise NoRatio("a ratio is made of two whole numbers")
    if bottom == 0:
        raise NoRatio("the bottom of a ratio is not 0")
    divisor = common_divisor(top, bottom)
    # A divisor of the bottom's sign leaves the bottom above 0.
    if bottom < 0:
        divisor = -divisor
    return (top // divisor, bottom // divisor)


def plus(one, other):
    return ratio(one[0] * other[1] + other[0] * one[1], one[1] * other[1])


def minus(one, other):
    return ratio(one[0] * other[1] - other[0] * one[1], one[1] * other[1])


def less(one, other):
    # Both bottoms are above 0, so the products stand as the ratios do.
    return one[0] * other[1] < other[0] * one[1]
