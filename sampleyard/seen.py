"""What is seen of a triangle at a point: its depth and its values [5.1, 5.3]."""

from sampleyard.edges import had, own_number, weights
from sampleyard.fractions import ratio
from sampleyard.whole import summed_products


def seen_at(triangle, point):
    if had(triangle, point) == 0:
        return None
    return depth_and_values(triangle, weights(triangle, point))


def hit(triangle, point):
    amounts = weights(triangle, point)
    numbers = list(amounts) + [weighed_h(triangle, amounts), own_number(triangle)]
    if min(numbers) > 0 or max(numbers) < 0:
        return depth_and_values(triangle, amounts)
    return None


def depth_and_values(triangle, amounts):
    bottom = weighed_h(triangle, amounts)
    depth = ratio(summed_products([corner[2] for corner in triangle], amounts), bottom)
    # Of each three, the first is a value of the first corner, and so on.
    threes = list(zip(triangle[0][4], triangle[1][4], triangle[2][4]))
    return (depth, tuple([ratio(summed_products(three, amounts), bottom) for three in threes]))


def weighed_h(triangle, amounts):
    return summed_products([corner[3] for corner in triangle], amounts)
