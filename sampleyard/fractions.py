"""Fractions: tuples (top, bottom) in lowest terms, the bottom from 1 on [1.1]."""

from sampleyard.whole import greatest_divisor, is_whole


def ratio(top, bottom):
    divisor = greatest_divisor([top, bottom])
    if bottom < 0:
        # Dividing by a number below 0 brings the sign up to the top.
        divisor = -divisor
    return (top // divisor, bottom // divisor)


def plus(one, other):
    return ratio(one[0] * other[1] + other[0] * one[1], one[1] * other[1])


def minus(one, other):
    return ratio(one[0] * other[1] - other[0] * one[1], one[1] * other[1])


def product(one, other):
    return ratio(one[0] * other[0], one[1] * other[1])


def mean_of(some):
    total = (0, 1)
    for fraction in some:
        total = plus(total, fraction)
    return ratio(total[0], total[1] * len(some))


def under(one, other):
    # Bottoms are above 0, so taking both times both of them keeps the order.
    return one[0] * other[1] < other[0] * one[1]


def least_of(some):
    least = some[0]
    for fraction in some:
        if under(fraction, least):
            least = fraction
    return least


def greatest_of(some):
    greatest = some[0]
    for fraction in some:
        if under(greatest, fraction):
            greatest = fraction
    return greatest


def down(one):
    return one[0] // one[1]


def is_fraction(thing):
    if not isinstance(thing, tuple) or len(thing) != 2:
        return False
    if not is_whole(thing[0]) or not is_whole(thing[1]):
        return False
    return thing[1] >= 1 and greatest_divisor(thing) == 1
