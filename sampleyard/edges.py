"""Edges: a point's side [2.1], which points a triangle has [2.2], crossings [2.3], weights [2.5]."""

from sampleyard.errors import BadTriangle
from sampleyard.whole import summed_products


def side(one, other, point):
    n = edge_numbers(one, other)
    # Behind the sum itself the hair to the right decides, and behind that the hair of it up.
    for number in (summed_products(n, point), n[0], n[1]):
        if number != 0:
            return 1 if number > 0 else -1
    return 0


def edge_numbers(one, other):
    return (
        one[1] * other[2] - one[2] * other[1],
        one[2] * other[0] - one[0] * other[2],
        one[0] * other[1] - one[1] * other[0],
    )


def edge_sum(one, other, point):
    return summed_products(edge_numbers(one, other), point)


def check_before_eye(corners):
    for corner in corners:
        if corner[2] <= 0:
            raise BadTriangle("only corners with w above 0 are thrown onto the floor")


def had(triangle, point):
    check_before_eye(triangle)
    turn = side(triangle[0], triangle[1], point)
    if side(triangle[1], triangle[2], point) != turn or side(triangle[2], triangle[0], point) != turn:
        return 0
    return turn


def crossings(edges, point):
    return sum([crossing(edge[0], edge[1], point) for edge in edges])


def crossing(one, other, point):
    check_before_eye((one, other))
    begins_above = is_above(one, point)
    ends_above = is_above(other, point)
    if ends_above and not begins_above and side(one, other, point) == 1:
        return 1
    if begins_above and not ends_above and side(one, other, point) == -1:
        return -1
    return 0


def is_above(corner, point):
    return corner[1] * point[2] > point[1] * corner[2]


def weights(triangle, point):
    return (
        edge_sum(triangle[1], triangle[2], point),
        edge_sum(triangle[2], triangle[0], point),
        edge_sum(triangle[0], triangle[1], point),
    )


def own_number(triangle):
    return edge_sum(triangle[0], triangle[1], triangle[2][:3])
