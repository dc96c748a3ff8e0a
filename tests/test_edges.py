"""[2.1] sides, [2.2] had, [2.3] and [2.4] crossings, [2.5] weights, and what [0.2] to [0.4] ask of them."""

import copy
import inspect
import itertools
import unittest
from fractions import Fraction

from sampleyard import edges as module
from sampleyard.edges import crossings, had, side, weights
from sampleyard.errors import BadTriangle, YardError

# Small beside every place and every sum of the small numbers below.
HAIR = Fraction(1, 10 ** 9)


def at(x, y, w=1, h=1, values=()):
    return (x, y, w, h, values)


# Corners before the eye, on whole and on broken places of the floor, some at one place with unlike w.
BEFORE = [
    at(0, 0), at(4, 0), at(0, 4), at(4, 4), at(2, 2), at(8, 8, 2), at(6, 0, 3), at(-2, 2, 2), at(3, 1, 2, 5),
    at(1, 7, 3),
]
# Corners of any w.
ANYWHERE = BEFORE[:7] + [at(0, 0, 0), at(1, 2, 0), at(-2, -4, 0), at(-4, 0, -1), at(-2, -2, -1), at(3, -1, -2)]
POINTS = [(px, py, 2) for px in range(-3, 11) for py in range(-3, 11)] + [(1, 1, 3), (4, 7, 3), (0, 0, 1), (4, 4, 1)]
FEW_POINTS = POINTS[::5] + POINTS[-4:]


def sign(number):
    return (number > 0) - (number < 0)


def turn_of(one, other, third):
    """the turn of three places of the floor"""
    return sign((other[0] - one[0]) * (third[1] - one[1]) - (other[1] - one[1]) * (third[0] - one[0]))


def moved(point):
    """the point moved by a hair to the right, and by a hair of that hair up"""
    return (Fraction(point[0], point[2]) + HAIR, Fraction(point[1], point[2]) + HAIR * HAIR)


def place_of(corner):
    return (Fraction(corner[0], corner[2]), Fraction(corner[1], corner[2]))


def side_by_hand(one, other, point):
    a, b, p = one[:3], other[:3], moved(point) + (1,)
    # The numbers of the three in rows: the sum over the rising orders less that over the falling ones.
    rising = a[0] * b[1] * p[2] + a[1] * b[2] * p[0] + a[2] * b[0] * p[1]
    falling = a[2] * b[1] * p[0] + a[1] * b[0] * p[2] + a[0] * b[2] * p[1]
    return sign(rising - falling)


def had_by_hand(triangle, point):
    a, b, c = [place_of(corner) for corner in triangle]
    turns = [turn_of(a, b, moved(point)), turn_of(b, c, moved(point)), turn_of(c, a, moved(point))]
    return turns[0] if turns[0] == turns[1] == turns[2] else 0


def edges_of(triangles):
    found = []
    for a, b, c in triangles:
        found += [(a, b), (b, c), (c, a)]
    return found


def struck_out(edges):
    """the edges that are left when each is struck out against one the other way"""
    left = []
    for one, other in edges:
        if (other, one) in left:
            left.remove((other, one))
        else:
            left.append((one, other))
    return left


def great(corner, times):
    """the same place of the floor, in numbers of many figures"""
    return tuple([number * times for number in corner[:3]]) + (corner[3], corner[4])


class Side(unittest.TestCase):
    def test_on_each_side(self):
        right, up = (at(0, 0), at(4, 0)), (at(0, 0), at(0, 4))
        self.assertEqual([side(*right, (1, 1, 1)), side(*right, (1, -1, 1))], [1, -1])
        self.assertEqual([side(*up, (-1, 1, 1)), side(*up, (1, 1, 1))], [1, -1])
        # Nor does it matter whether the point lies beside the edge or beyond its ends.
        self.assertEqual([side(*right, (9, 1, 2)), side(*right, (-9, -1, 2))], [1, -1])

    def test_on_the_edge_the_first_number_decides(self):
        for other, expected in ((at(0, 4), -1), (at(0, -4), 1), (at(4, 4), -1), (at(4, -4), 1), (at(-4, 4), -1)):
            for point in ((0, 0, 1), (other[0], other[1], 1), (other[0], other[1], 2), (-other[0], -other[1], 3)):
                self.assertEqual(side(at(0, 0), other, point), expected, (other, point))

    def test_on_a_level_edge_the_second_number_decides(self):
        for y in (-3, 0, 5):
            for point in ((0, y, 1), (4, y, 1), (3, 2 * y, 2), (-9, y, 1), (9, y, 1)):
                self.assertEqual(side(at(0, y), at(4, y), point), 1)
                self.assertEqual(side(at(4, y), at(0, y), point), -1)
                self.assertEqual(side(at(0, 2 * y, 2), at(12, 3 * y, 3), point), 1)

    def test_the_sum_goes_ahead_of_the_numbers(self):
        # The first number, or the second, is of the other sign than the sum, however near the point lies.
        self.assertEqual(side(at(0, 0), at(0, 4), (-1, 0, 10 ** 8)), 1)
        self.assertEqual(side(at(0, 0), at(4, 0), (0, -1, 10 ** 8)), -1)
        self.assertEqual(side(at(0, 0), at(8, -4), (-1, 0, 1)), -1)
        self.assertEqual(side(at(8, -4), at(0, 0), (-1, 0, 1)), 1)

    def test_the_first_number_goes_ahead_of_the_second(self):
        for other, expected in ((at(4, 1), -1), (at(-4, -1), 1), (at(400, 1), -1), (at(-400, -1), 1)):
            self.assertEqual(side(at(0, 0), other, (0, 0, 1)), expected)

    def test_without_length(self):
        for corner in ANYWHERE:
            for times in (1, 2, 7, -1, -3, 0):
                for point in FEW_POINTS:
                    self.assertEqual(side(corner, great(corner, times), point), 0)
                    self.assertEqual(side(great(corner, times), corner, point), 0)

    def test_w_of_nothing_and_below(self):
        self.assertEqual(side(at(1, 0, 0), at(0, 1, 0), (5, 5, 1)), 1)
        self.assertEqual(side(at(0, 1, 0), at(1, 0, 0), (5, 5, 1)), -1)
        self.assertEqual(side(at(0, 0), at(0, 4, -1), (-1, 0, 1)), 1)
        self.assertEqual(side(at(0, 0), at(4, 0, -1), (1, 1, 1)), 1)
        self.assertEqual(side(at(0, 0), at(4, 0, 0), (1, 0, 1)), 1)
        self.assertEqual(side(at(0, 0, -1), at(4, 0, 1), (1, 1, 1)), -1)

    def test_it_is_the_side_of_the_moved_point(self):
        for one, other in itertools.product(ANYWHERE, ANYWHERE):
            for point in POINTS:
                self.assertEqual(side(one, other, point), side_by_hand(one, other, point), (one, other, point))

    def test_from_the_other_end(self):
        for one, other in itertools.product(ANYWHERE, ANYWHERE):
            for point in POINTS:
                self.assertEqual(side(other, one, point), -side(one, other, point))

    def test_a_point_so_many_times_over(self):
        for one, other in itertools.product(ANYWHERE, ANYWHERE):
            for point in FEW_POINTS:
                for times in (2, 3, 10 ** 7):
                    over = (point[0] * times, point[1] * times, point[2] * times)
                    self.assertEqual(side(one, other, over), side(one, other, point))

    def test_no_point_lies_on_an_edge_with_length(self):
        for one, other in itertools.product(BEFORE, BEFORE):
            has_length = place_of(one) != place_of(other)
            for point in POINTS:
                self.assertEqual(side(one, other, point) != 0, has_length)

    def test_h_and_values_play_no_part(self):
        for one, other in itertools.product(ANYWHERE, ANYWHERE):
            for point in FEW_POINTS:
                told = side(one[:3] + (9, (1, 2)), other[:3] + (4, (-5, 8)), point)
                self.assertEqual(told, side(one, other, point))

    def test_many_figures(self):
        for one, other in itertools.product(BEFORE, BEFORE):
            for point in FEW_POINTS:
                told = side(great(one, 10 ** 40 + 1), great(other, 3 ** 90), point)
                self.assertEqual(told, side(one, other, point))
        most = 10 ** 6
        self.assertEqual(side(at(-most, -most), at(most, most - 1), (0, 0, 1)), 1)
        self.assertEqual(side(at(-most, -most, most), at(most, most, most), (10 ** 8, 10 ** 8 - 1, 10 ** 8)), -1)

    def test_told_is_a_whole_number(self):
        for point in POINTS:
            self.assertIs(type(side(BEFORE[0], BEFORE[1], point)), int)


LEFT_TURN = (at(0, 0), at(4, 0), at(0, 4))
RIGHT_TURN = (at(0, 0), at(0, 4), at(4, 0))


class Had(unittest.TestCase):
    def test_either_turn(self):
        for point in ((1, 1, 1), (3, 3, 2), (1, 5, 2), (1, 1, 8)):
            self.assertEqual(had(LEFT_TURN, point), 1)
            self.assertEqual(had(RIGHT_TURN, point), -1)

    def test_without(self):
        for point in ((5, 5, 2), (-1, 1, 8), (1, -1, 8), (9, 9, 1), (-5, 0, 1), (0, -5, 1), (9, 0, 1)):
            self.assertEqual(had(LEFT_TURN, point), 0)
            self.assertEqual(had(RIGHT_TURN, point), 0)

    def test_on_edges(self):
        # A point of the left or the lower edge moves in, one of the slanted edge out.
        for point, expected in (((0, 2, 1), 1), ((2, 0, 1), 1), ((2, 2, 1), 0), ((1, 3, 1), 0)):
            self.assertEqual(had(LEFT_TURN, point), expected)
            self.assertEqual(had(RIGHT_TURN, point), -expected)
        other_half = (at(4, 4), at(0, 4), at(4, 0))
        for point, expected in (((2, 2, 1), 1), ((1, 3, 1), 1), ((4, 2, 1), 0), ((2, 4, 1), 0)):
            self.assertEqual(had(other_half, point), expected)

    def test_at_corners(self):
        for point, expected in (((0, 0, 1), 1), ((4, 0, 1), 0), ((0, 4, 1), 0), ((0, 0, 5), 1), ((8, 0, 2), 0)):
            self.assertEqual(had(LEFT_TURN, point), expected)
            self.assertEqual(had(RIGHT_TURN, point), -expected)

    def test_flat(self):
        for triangle in (
            (at(0, 0), at(2, 2), at(4, 4)), (at(0, 0), at(4, 4), at(2, 2)), (at(0, 0), at(4, 0), at(4, 0)),
            (at(2, 2), at(2, 2), at(2, 2)), (at(0, 0), at(2, 0), at(6, 0, 3)), (at(2, 2), at(4, 4, 2), at(0, 4)),
            (at(0, 0), at(0, 3), at(0, 8, 2)),
        ):
            for point in POINTS:
                self.assertEqual(had(triangle, point), 0, (triangle, point))

    def test_of_the_moved_point(self):
        for triangle in itertools.product(BEFORE, BEFORE, BEFORE):
            for point in FEW_POINTS:
                self.assertEqual(had(triangle, point), had_by_hand(triangle, point), (triangle, point))

    def test_all_points(self):
        for triangle in itertools.permutations((at(0, 0), at(3, 1, 2), at(1, 7, 3))):
            for point in POINTS:
                self.assertEqual(had(triangle, point), had_by_hand(triangle, point))

    def test_all_sides_alike(self):
        for triangle in itertools.combinations(BEFORE, 3):
            a, b, c = triangle
            for point in FEW_POINTS:
                sides = [side(a, b, point), side(b, c, point), side(c, a, point)]
                expected = 1 if sides == [1, 1, 1] else -1 if sides == [-1, -1, -1] else 0
                self.assertEqual(had(triangle, point), expected)

    def test_from_another_corner_on_and_the_other_way_round(self):
        for a, b, c in itertools.combinations(BEFORE, 3):
            for point in FEW_POINTS:
                told = had((a, b, c), point)
                self.assertEqual([had((b, c, a), point), had((c, a, b), point)], [told, told])
                for other_way in ((c, b, a), (b, a, c), (a, c, b)):
                    self.assertEqual(had(other_way, point), -told)

    def test_a_point_so_many_times_over(self):
        for triangle in itertools.combinations(BEFORE, 3):
            for px, py, s in FEW_POINTS:
                self.assertEqual(had(triangle, (px * 6, py * 6, s * 6)), had(triangle, (px, py, s)))

    def test_many_figures(self):
        for triangle in itertools.combinations(BEFORE, 3):
            far = tuple([great(corner, 10 ** 30 + number) for number, corner in enumerate(triangle)])
            for point in FEW_POINTS:
                self.assertEqual(had(far, point), had(triangle, point))

    def test_refused(self):
        for triangle in (LEFT_TURN, RIGHT_TURN, (at(2, 2), at(2, 2), at(2, 2))):
            for place in range(3):
                for w in (0, -1, -(10 ** 6), -(10 ** 30)):
                    wrong = list(triangle)
                    wrong[place] = at(triangle[place][0], triangle[place][1], w)
                    for point in ((1, 1, 1), (0, 0, 1), (50, 50, 1)):
                        with self.assertRaises(BadTriangle) as caught:
                            had(tuple(wrong), point)
                        self.assertIsInstance(caught.exception, YardError)

    def test_w_of_one_is_not_refused(self):
        self.assertEqual(had((at(0, 0, 1), at(4, 0, 1), at(0, 4, 1)), (1, 1, 1)), 1)


def square(least, most):
    return at(least, least), at(most, least), at(most, most), at(least, most)


A, B, C, D = square(0, 4)
MIDST = at(4, 4, 2)
LISTS = {
    "empty": [],
    "one": [LEFT_TURN],
    "two that share an edge": [(A, B, C), (A, C, D)],
    "the same, unlike turns": [(A, B, C), (A, D, C)],
    "fan": [(A, B, MIDST), (B, C, MIDST), (C, D, MIDST), (D, A, MIDST)],
    "overlapping": [(A, B, C), (B, C, D), (C, D, A), (at(1, 1), at(7, 2), at(2, 9, 2))],
    "flat": [(A, at(2, 0), B), (A, MIDST, C), (A, A, B), (C, C, C)],
    "twice": [(A, B, C), (A, B, C), (B, C, A)],
    "once each way": [(A, B, C), (C, B, A)],
    "mixed": [(A, B, C), (A, C, D), (B, A, MIDST), (A, MIDST, C), LEFT_TURN, LEFT_TURN, RIGHT_TURN],
    "open chain": [(A, B, MIDST), (B, C, MIDST), (C, D, MIDST)],
    "all": list(itertools.combinations(BEFORE[:7], 3)),
}
# Middles of cells, points on edges, and corners.
CHECKED = [(2 * c + 1, 2 * r + 1, 2) for c in range(-1, 6) for r in range(-1, 6)] + POINTS[::3] + POINTS[-4:] + [
    (px, py, 1) for px in range(-1, 6) for py in range(-1, 6)
]


class Crossings(unittest.TestCase):
    def test_rising_and_falling(self):
        rising, falling = (at(4, 0), at(4, 4)), (at(4, 4), at(4, 0))
        for point, expected in (((1, 1, 1), 1), ((7, 1, 1), 0), ((1, 5, 1), 0), ((1, -1, 1), 0)):
            self.assertEqual(crossings([rising], point), expected)
            self.assertEqual(crossings([falling], point), -expected)

    def test_above_is_more_than(self):
        # A corner at the point's own height is not above it.
        for w in (1, 2, 3):
            edge = (at(4 * w, 0, w), at(4 * w, 4 * w, w))
            for point, expected in (
                ((1, 0, 1), 1), ((1, 4, 1), 0), ((2, 7, 2), 1), ((2, 8, 2), 0), ((2, -1, 2), 0), ((2, 1, 2), 1),
            ):
                self.assertEqual(crossings([edge], point), expected)
                self.assertEqual(crossings([edge[::-1]], point), -expected)

    def test_on_the_edge(self):
        # The hair to the right takes the point beyond an edge that it lies on.
        self.assertEqual(crossings([(at(4, 0), at(4, 4))], (4, 2, 1)), 0)
        self.assertEqual(crossings([(at(4, 4), at(4, 0))], (4, 2, 1)), 0)
        self.assertEqual(crossings([(at(0, 0), at(4, 4))], (2, 2, 1)), 0)
        self.assertEqual(crossings([(at(0, 0), at(4, 4))], (7, 8, 4)), 1)

    def test_level_edges_are_never_crossed(self):
        for point in POINTS:
            for edge in ((A, B), (B, A), (D, C), (C, D), (A, A)):
                self.assertEqual(crossings([edge], point), 0)

    def test_by_hand(self):
        for one, other in itertools.product(BEFORE, BEFORE):
            for point in FEW_POINTS:
                height = moved(point)[1]
                rise = (place_of(other)[1] > height) - (place_of(one)[1] > height)
                expected = rise if side_by_hand(one, other, point) == rise else 0
                self.assertEqual(crossings([(one, other)], point), expected)

    def test_an_edge_and_the_same_the_other_way(self):
        for one, other in itertools.product(BEFORE, BEFORE):
            for point in FEW_POINTS:
                self.assertEqual(crossings([(one, other), (other, one)], point), 0)

    def test_summed(self):
        edge = (at(4, 0), at(4, 4))
        self.assertEqual(crossings([], (1, 1, 1)), 0)
        self.assertEqual(crossings([edge] * 5, (1, 1, 1)), 5)
        self.assertEqual(crossings([edge[::-1]] * 5, (1, 1, 1)), -5)
        self.assertEqual(crossings([edge, edge, edge[::-1], (A, B), (A, D)], (1, 1, 1)), 1)

    def test_refused(self):
        right = (at(4, 0), at(4, 4))
        for w in (0, -1, -(10 ** 6)):
            for wrong in ((at(4, 0, w), at(4, 4)), (at(4, 0), at(4, 4, w)), (at(4, 0, w), at(4, 0, w))):
                for edges in ([wrong], [wrong, right], [right, wrong], [right] * 4 + [wrong] + [right]):
                    # Whether the row of the point comes by the edge or not.
                    for point in ((1, 1, 1), (1, 50, 1), (1, -50, 1), (9, 1, 1)):
                        with self.assertRaises(BadTriangle):
                            crossings(edges, point)


class Border(unittest.TestCase):
    def test_had_summed_is_the_crossings_of_all_edges(self):
        for name, triangles in LISTS.items():
            for point in CHECKED:
                summed = sum([had(triangle, point) for triangle in triangles])
                self.assertEqual(crossings(edges_of(triangles), point), summed, (name, point))

    def test_and_of_the_border_alone(self):
        for name, triangles in LISTS.items():
            border = struck_out(edges_of(triangles))
            for point in CHECKED:
                summed = sum([had(triangle, point) for triangle in triangles])
                self.assertEqual(crossings(border, point), summed, (name, point))

    def test_lists_of_one_border_have_alike(self):
        self.assertEqual(struck_out(edges_of(LISTS["once each way"])), [])
        for point in CHECKED:
            fan = sum([had(triangle, point) for triangle in LISTS["fan"]])
            two = sum([had(triangle, point) for triangle in LISTS["two that share an edge"]])
            self.assertEqual(fan, two)

    def test_triangles_that_fill_a_square_have_each_point_once(self):
        for name in ("fan", "two that share an edge"):
            for point in CHECKED:
                told = [had(triangle, point) for triangle in LISTS[name]]
                px, py, s = point
                # Of the square's own edges the left and the lower one belong to it.
                is_within = 0 <= px < 4 * s and 0 <= py < 4 * s
                self.assertEqual(sorted(told), [0] * (len(told) - 1) + [int(is_within)], (name, point))

    def test_squares_side_by_side_have_each_point_once(self):
        triangles = []
        for x, y in itertools.product(range(3), range(3)):
            a, b, c, d = at(x, y), at(2 * x + 2, 2 * y, 2), at(3 * x + 3, 3 * y + 3, 3), at(x, y + 1)
            triangles += [(a, b, c), (a, c, d)] if (x + y) % 2 else [(a, b, d), (b, c, d)]
        for px, py in itertools.product(range(-1, 14), range(-1, 14)):
            told = [had(triangle, (px, py, 4)) for triangle in triangles]
            self.assertEqual(told.count(1), int(0 <= px < 12 and 0 <= py < 12))
            self.assertEqual(told.count(-1), 0)


def own_number_by_hand(triangle):
    a, b, c = [corner[:3] for corner in triangle]
    rising = a[0] * b[1] * c[2] + a[1] * b[2] * c[0] + a[2] * b[0] * c[1]
    return rising - a[2] * b[1] * c[0] - a[1] * b[0] * c[2] - a[0] * b[2] * c[1]


class Weights(unittest.TestCase):
    def test_ordinary(self):
        self.assertEqual(weights(LEFT_TURN, (1, 1, 1)), (8, 4, 4))
        self.assertEqual(weights(RIGHT_TURN, (1, 1, 1)), (-8, -4, -4))
        self.assertEqual(weights(LEFT_TURN, (3, 0, 1)), (4, 12, 0))
        self.assertEqual(weights(LEFT_TURN, (0, 3, 2)), (20, 0, 12))
        self.assertEqual(weights(LEFT_TURN, (0, 0, 1)), (16, 0, 0))
        self.assertEqual(weights(LEFT_TURN, (9, -1, 1)), (-16, 36, -4))

    def test_the_sums_of_the_edges(self):
        for a, b, c in itertools.combinations(ANYWHERE, 3):
            for point in FEW_POINTS:
                for weight, one, other in zip(weights((a, b, c), point), (b, c, a), (c, a, b)):
                    if weight != 0:
                        self.assertEqual(side(one, other, point), sign(weight))

    def test_taken_their_times_the_corners_come_to_the_point(self):
        for triangle in itertools.product(ANYWHERE, ANYWHERE[::2], ANYWHERE[1::2]):
            own = own_number_by_hand(triangle)
            for point in FEW_POINTS:
                told = weights(triangle, point)
                for place in range(3):
                    total = sum([weight * corner[place] for weight, corner in zip(told, triangle)])
                    self.assertEqual(total, own * point[place])

    def test_w_of_nothing_and_below(self):
        self.assertEqual(weights((at(1, 0, 0), at(0, 1, 0), at(0, 0, -1)), (2, 3, 5)), (-2, -3, 5))
        self.assertEqual(weights((at(-4, 0, -1), at(4, 0, 1), at(0, 4, 0)), (1, 2, 3)), (44, 44, 0))

    def test_flat(self):
        self.assertEqual(weights((at(2, 2),) * 3, (1, 5, 1)), (0, 0, 0))

    def test_many_figures(self):
        for triangle in itertools.combinations(BEFORE, 3):
            far = tuple([great(corner, 10 ** 30) for corner in triangle])
            for point in FEW_POINTS:
                self.assertEqual(weights(far, point), tuple([n * 10 ** 60 for n in weights(triangle, point)]))

    def test_kinds(self):
        told = weights(LEFT_TURN, (1, 1, 1))
        self.assertEqual([type(told)] + [type(number) for number in told], [tuple, int, int, int])


class HandedIn(unittest.TestCase):
    def test_stays_as_it_was(self):
        for triangles in LISTS.values():
            edges = edges_of(triangles)
            before = copy.deepcopy(edges)
            first = crossings(edges, (1, 1, 1))
            self.assertEqual(edges, before)
            self.assertEqual(crossings(edges, (1, 1, 1)), first)

    def test_nothing_is_kept(self):
        edges = [(at(4, 0), at(4, 4))]
        self.assertEqual(crossings(edges, (1, 1, 1)), 1)
        edges.append(edges[0])
        self.assertEqual(crossings(edges, (1, 1, 1)), 2)
        edges.clear()
        self.assertEqual(crossings(edges, (1, 1, 1)), 0)

    def test_told_is_new_each_time(self):
        self.assertIsNot(weights(LEFT_TURN, (1, 1, 1)), weights(LEFT_TURN, (1, 1, 1)))


class Interface(unittest.TestCase):
    def test_names_and_arguments(self):
        for name, arguments in (
            ("side", ["one", "other", "point"]), ("had", ["triangle", "point"]), ("crossings", ["edges", "point"]),
            ("weights", ["triangle", "point"]),
        ):
            self.assertEqual(list(inspect.signature(getattr(module, name)).parameters), arguments)


if __name__ == "__main__":
    unittest.main()
