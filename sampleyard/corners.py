"""Corners and triangles: checked [1.2], thrown onto the floor [1.3], mixed [1.4]."""

from sampleyard.errors import BadTriangle
from sampleyard.fractions import ratio
from sampleyard.whole import greatest_divisor, is_whole

MOST_VALUES = 3


def check_triangle(triangle):
    if not isinstance(triangle, tuple) or len(triangle) != 3:
        raise BadTriangle("a triangle is a tuple of three corners")
    for corner in triangle:
        if not is_corner(corner):
            raise BadTriangle("a corner is a tuple (x, y, w, h, values) of whole numbers, h from 1 on")
        if len(corner[4]) != len(triangle[0][4]):
            raise BadTriangle("the corners of a triangle have as many values each")


def is_corner(thing):
    if not isinstance(thing, tuple) or len(thing) != 5:
        return False
    # No bound is held against the numbers: those of told corners may have any count of figures.
    if not all([is_whole(number) for number in thing[:4]]):
        return False
    return thing[3] >= 1 and are_values(thing[4])


def are_values(thing):
    if not isinstance(thing, tuple) or len(thing) > MOST_VALUES:
        return False
    return all([is_whole(number) for number in thing])


def thrown(corner):
    if corner[2] <= 0:
        raise BadTriangle("a corner is thrown onto the floor only with w above 0")
    return (ratio(corner[0], corner[2]), ratio(corner[1], corner[2]))


def mixed(one, other, first, second):
    sums = [first * a + second * b for a, b in zip(numbers_of(one), numbers_of(other))]
    # h is from 1 on in both, so the sums are never all 0 and the divisor never is.
    divisor = greatest_divisor(sums)
    lowest = [number // divisor for number in sums]
    return (lowest[0], lowest[1], lowest[2], lowest[3], tuple(lowest[4:]))


def numbers_of(corner):
    return list(corner[:4]) + list(corner[4])
