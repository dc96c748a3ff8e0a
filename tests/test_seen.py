"""[5.1] and [5.2] depth and values at a point, [5.3] rays through a triangle's midst; [0.2] of them."""

import copy
import inspect
import itertools
import math
import unittest
from fractions import Fraction

from sampleyard import seen as module
from sampleyard.corners import mixed
from sampleyard.edges import had, weights
from sampleyard.errors import BadTriangle, YardError
from sampleyard.seen import hit, seen_at
from sampleyard.walls import cut

POINTS = [(px, py, 2) for px in range(-2, 11) for py in range(-2, 11)] + [(0, 0, 1), (4, 4, 1), (1, 1, 3), (7, 5, 6)]


def at(x, y, w=1, h=1, values=()):
    return (x, y, w, h, values)


def with_values(triangle, count):
    return tuple([corner[:4] + (corner[4][:count],) for corner in triangle])


# All of one depth: the values run evenly over the floor.
LEVEL = (at(0, 0, 1, 1, (0, 8, 1)), at(4, 0, 1, 1, (4, 8, 1)), at(0, 4, 1, 1, (0, -8, 1)))
# The second corner twice as far, the third one given by h of 2.
STEEP = (at(0, 0, 1, 1, (0, 5, -3)), at(8, 0, 2, 1, (4, 5, 9)), at(0, 4, 1, 2, (2, 10, 0)))
BEFORE = (
    at(0, 0, 1, 1, (0, 8, -1)), at(4, 0, 1, 1, (4, -8, 7)), at(0, 12, 3, 2, (3, 1, 2)), at(8, 8, 2, 5, (-6, 2, 5)),
    at(2, 4, 2, 1, (9, 9, 9)), at(15, 3, 3, 4, (0, 0, -8)),
)
BEHIND = (
    at(-4, -4, -2, 1, (5, 0, 1)), at(6, -1, 0, 2, (-3, 2, 2)), at(0, -9, -3, 4, (7, 7, 0)), at(0, 0, 0, 1, (1, 2, 3)),
)


def solved(rows, right):
    """the three numbers that, by the rows, come to what stands on the right; None where there are no such three"""
    (a, b, c), (d, e, f), (g, h, i) = rows
    whole = a * (e * i - f * h) - b * (d * i - f * g) + c * (d * h - e * g)
    if whole == 0:
        return None
    found = []
    for place in range(3):
        (a, b, c), (d, e, f), (g, h, i) = [row[:place] + [end] + row[place + 1:] for row, end in zip(rows, right)]
        found.append(Fraction(a * (e * i - f * h) - b * (d * i - f * g) + c * (d * h - e * g), whole))
    return found


def met_by_ray(triangle, point):
    """by hand, in space: the parts of the corners' places that make up a place of the point's ray, and that place

    Parts p, q, r of the places of the corners, that come to 1 in all, make k times (px, py, s). With the parts taken
    by k they are found first; then k is one by their sum.
    """
    places = [[Fraction(number, corner[3]) for number in corner[:3]] for corner in triangle]
    parts = solved([list(row) for row in zip(*places)], list(point))
    if parts is None or sum(parts) == 0:
        return None
    k = 1 / sum(parts)
    return [part * k for part in parts], k


def as_told(number):
    return (number.numerator, number.denominator)


def told_by_hand(triangle, point):
    parts, k = met_by_ray(triangle, point)
    values = []
    for number in range(len(triangle[0][4])):
        total = sum([part * Fraction(corner[4][number], corner[3]) for part, corner in zip(parts, triangle)])
        values.append(as_told(Fraction(total)))
    return as_told(k * point[2]), tuple(values)


class SeenAt(unittest.TestCase):
    def test_level(self):
        self.assertEqual(seen_at(LEVEL, (1, 1, 1)), ((1, 1), ((1, 1), (4, 1), (1, 1))))
        self.assertEqual(seen_at(LEVEL, (1, 1, 2)), ((1, 1), ((1, 2), (6, 1), (1, 1))))
        self.assertEqual(seen_at(LEVEL, (5, 1, 3)), ((1, 1), ((5, 3), (20, 3), (1, 1))))

    def test_steep(self):
        # Half way over the floor between depths 1 and 2 stands what is a third of the way in space.
        self.assertEqual(seen_at(STEEP, (2, 0, 1)), ((4, 3), ((4, 3), (5, 1), (1, 1))))
        self.assertEqual(seen_at(STEEP, (1, 1, 1)), ((8, 9), ((8, 9), (5, 1), (-1, 3))))

    def test_counts_of_values(self):
        for count, expected in ((0, ()), (1, ((8, 9),)), (2, ((8, 9), (5, 1))), (3, ((8, 9), (5, 1), (-1, 3)))):
            self.assertEqual(seen_at(with_values(STEEP, count), (1, 1, 1)), ((8, 9), expected))

    def test_on_edges_and_at_corners(self):
        self.assertEqual(seen_at(LEVEL, (0, 0, 1)), ((1, 1), ((0, 1), (8, 1), (1, 1))))
        self.assertEqual(seen_at(LEVEL, (2, 0, 1)), ((1, 1), ((2, 1), (8, 1), (1, 1))))
        self.assertEqual(seen_at(LEVEL, (0, 1, 1)), ((1, 1), ((0, 1), (4, 1), (1, 1))))
        # There another one has the point.
        for point in ((2, 2, 1), (4, 0, 1), (0, 4, 1)):
            self.assertIsNone(seen_at(LEVEL, point))
        other = (at(4, 4, 1, 1, (1,)), at(0, 4, 1, 1, (2,)), at(4, 0, 1, 1, (4,)))
        self.assertEqual(seen_at(other, (2, 2, 1)), ((1, 1), ((3, 1),)))
        self.assertEqual(seen_at(other, (1, 3, 1)), ((1, 1), ((5, 2),)))

    def test_at_its_lower_left_corner_a_triangle_is_seen_as_its_corner(self):
        corner = at(6, 4, 2, 3, (5, -6, 0))
        triangle = (at(9, 2, 1, 1, (1, 1, 1)), at(4, 9, 1, 7, (1, 1, 1)), corner)
        self.assertEqual(seen_at(triangle, (3, 2, 1)), ((2, 3), ((5, 3), (-2, 1), (0, 1))))

    def test_not_had(self):
        for point in ((5, 5, 1), (-1, 1, 1), (1, -1, 2), (9, 0, 1), (3, 3, 1)):
            self.assertIsNone(seen_at(LEVEL, point))
            self.assertIsNone(seen_at(LEVEL[::-1], point))

    def test_flat(self):
        for triangle in ((LEVEL[0],) * 3, (at(0, 0), at(2, 2), at(8, 8, 2)), (at(0, 0), at(4, 0, 1, 9), at(8, 0))):
            for point in POINTS:
                self.assertIsNone(seen_at(triangle, point))

    def test_just_where_it_has_the_point(self):
        for triangle in itertools.permutations(BEFORE, 3):
            for point in POINTS:
                self.assertEqual(seen_at(triangle, point) is None, had(triangle, point) == 0)

    def test_where_the_ray_meets_the_plane(self):
        for triangle in list(itertools.permutations(BEFORE, 3)) + [LEVEL, STEEP]:
            for point in POINTS:
                told = seen_at(triangle, point)
                if told is not None:
                    self.assertEqual(told, told_by_hand(triangle, point))

    def test_either_turn_and_from_each_corner_on(self):
        for a, b, c in itertools.combinations(BEFORE, 3):
            for point in POINTS:
                told = seen_at((a, b, c), point)
                for triangle in ((b, c, a), (c, a, b), (c, b, a), (b, a, c)):
                    self.assertEqual(seen_at(triangle, point), told)

    def test_between_the_least_and_the_greatest(self):
        for triangle in itertools.permutations(BEFORE, 3):
            depths = [Fraction(corner[2], corner[3]) for corner in triangle]
            for point in POINTS:
                told = seen_at(triangle, point)
                if told is None:
                    continue
                self.assertTrue(min(depths) <= Fraction(*told[0]) <= max(depths))
                for number, value in enumerate(told[1]):
                    values = [Fraction(corner[4][number], corner[3]) for corner in triangle]
                    self.assertTrue(min(values) <= Fraction(*value) <= max(values))

    def test_the_same_point_so_many_times_over(self):
        for triangle in itertools.combinations(BEFORE, 3):
            for px, py, s in POINTS:
                self.assertEqual(seen_at(triangle, (px * 7, py * 7, s * 7)), seen_at(triangle, (px, py, s)))

    def test_lowest_terms_and_kinds(self):
        for triangle in itertools.permutations(BEFORE, 3):
            for count in range(4):
                for point in POINTS[::6]:
                    told = seen_at(with_values(triangle, count), point)
                    if told is None:
                        continue
                    self.assertEqual([type(told), len(told), type(told[1]), len(told[1])], [tuple, 2, tuple, count])
                    for fraction in (told[0],) + told[1]:
                        self.assertEqual([type(fraction), len(fraction)], [tuple, 2])
                        self.assertGreaterEqual(fraction[1], 1)
                        self.assertEqual(math.gcd(*fraction), 1)

    def test_refused(self):
        for triangle in (LEVEL, STEEP, (LEVEL[0],) * 3):
            for place, w in itertools.product(range(3), (0, -1, -(10 ** 6))):
                corner = triangle[place]
                wrong = triangle[:place] + (corner[:2] + (w,) + corner[3:],) + triangle[place + 1:]
                for point in ((1, 1, 1), (0, 0, 1), (50, 50, 1), (-50, 1, 1)):
                    with self.assertRaises(BadTriangle) as caught:
                        seen_at(wrong, point)
                    self.assertIsInstance(caught.exception, YardError)

    def test_many_figures(self):
        for triangle in itertools.combinations(BEFORE, 3):
            far = [mixed(corner, BEFORE[0], 10 ** 40 + 9, 3 ** 70) for corner in triangle]
            for point in POINTS[::5]:
                told = seen_at(tuple(far), point)
                if told is not None:
                    self.assertEqual(told, told_by_hand(far, point))


# The first corner before the eye, two behind it.
THROUGH = (at(4, 4, 4, 1, (8,)), at(-2, 0, -2, 1, (2,)), at(0, -2, -2, 1, (2,)))


class Hit(unittest.TestCase):
    def test_midst(self):
        self.assertEqual(hit(LEVEL, (1, 1, 1)), ((1, 1), ((1, 1), (4, 1), (1, 1))))
        self.assertEqual(hit(LEVEL[::-1], (1, 1, 1)), ((1, 1), ((1, 1), (4, 1), (1, 1))))
        self.assertEqual(hit(STEEP, (1, 1, 1)), ((8, 9), ((8, 9), (5, 1), (-1, 3))))
        self.assertEqual(hit(with_values(STEEP, 0), (1, 1, 1)), ((8, 9), ()))

    def test_edges_and_corners(self):
        for point in ((0, 0, 1), (2, 0, 1), (0, 1, 1), (2, 2, 1), (1, 3, 1), (4, 0, 1), (0, 4, 1), (3, 0, 2)):
            self.assertIsNone(hit(LEVEL, point))
            self.assertIsNone(hit(LEVEL[::-1], point))

    def test_beside(self):
        for point in ((5, 5, 1), (-1, 1, 1), (1, -1, 2), (9, 0, 1), (3, 3, 1), (-1, -1, 1)):
            self.assertIsNone(hit(LEVEL, point))
            self.assertIsNone(hit(LEVEL[::-1], point))

    def test_corners_behind_the_eye(self):
        # Cut at depth 1 what is left of it has the places (1, 1), (1, 2) and (2, 1) of the floor.
        self.assertEqual(hit(THROUGH, (5, 5, 4)), ((8, 5), ((28, 5),)))
        self.assertEqual(hit(THROUGH[::-1], (5, 5, 4)), ((8, 5), ((28, 5),)))
        # Nearer than that, too, however far out on the floor.
        self.assertEqual(hit(THROUGH, (100, 100, 1)), ((4, 595), ((2384, 595),)))
        self.assertIsNone(hit(THROUGH, (1, 1, 1)))
        self.assertIsNone(hit(THROUGH, (0, 0, 1)))
        self.assertIsNone(hit(THROUGH, (-5, -5, 1)))

    def test_wholly_behind_the_eye(self):
        # What stands where the rays go backwards is never seen.
        mirrored = tuple([(-x, -y, -w, h, values) for x, y, w, h, values in LEVEL])
        for point in POINTS:
            self.assertIsNone(hit(mirrored, point))
            self.assertIsNone(hit(mirrored[::-1], point))
        self.assertEqual(weights(mirrored, (1, 1, 1)), weights(LEVEL, (1, 1, 1)))

    def test_the_eye_within_the_triangle(self):
        # All weights are above 0, or all below, and the triangle's own number is 0.
        triangle = (at(1, 0, 0), at(0, 1, 0), at(-1, -1, 0))
        self.assertEqual(weights(triangle, (0, 0, 1)), (1, 1, 1))
        self.assertIsNone(hit(triangle, (0, 0, 1)))
        self.assertIsNone(hit(triangle[::-1], (0, 0, 1)))

    def test_flat(self):
        for triangle in ((THROUGH[0],) * 3, (THROUGH[1], THROUGH[1], THROUGH[0]), (at(0, 0), at(2, 2), at(8, 8, 2))):
            for point in POINTS:
                self.assertIsNone(hit(triangle, point))

    def test_w_of_nothing(self):
        triangle = (at(0, 0, 1, 1, (1,)), at(1, 0, 0, 1, (3,)), at(0, 1, 0, 1, (5,)))
        self.assertEqual(hit(triangle, (1, 1, 1)), ((1, 3), ((3, 1),)))
        self.assertEqual(hit(triangle, (2, 3, 4)), ((4, 9), ((25, 9),)))
        self.assertIsNone(hit(triangle, (-1, 1, 1)))

    def test_the_ray_by_hand(self):
        count = 0
        for triangle in itertools.permutations(BEFORE[:4] + BEHIND, 3):
            for point in POINTS[::2]:
                told = hit(triangle, point)
                met = met_by_ray(triangle, point)
                # The ray goes forward alone, and through the midst where each corner has a part.
                is_hit = met is not None and min(met[0]) > 0 and met[1] > 0
                self.assertEqual(told is not None, is_hit, (triangle, point))
                if is_hit:
                    count += min([corner[2] for corner in triangle]) <= 0
                    self.assertEqual(told, told_by_hand(triangle, point))
        self.assertGreater(count, 100)

    def test_with_corners_before_the_eye_as_seen_at(self):
        for triangle in list(itertools.permutations(BEFORE, 3)) + [LEVEL, STEEP]:
            for point in POINTS:
                expected = None if 0 in weights(triangle, point) else seen_at(triangle, point)
                self.assertEqual(hit(triangle, point), expected)

    def test_as_its_piece_before_a_wall(self):
        count = 0
        for triangle in itertools.combinations(BEFORE[:4] + BEHIND, 3):
            pieces = cut(triangle, (0, 0, 9, -1))[0]
            for point in POINTS:
                told = hit(triangle, point)
                if told is None or 9 * told[0][0] <= told[0][1]:
                    continue
                # What stands before the wall is seen of just one of the pieces, as of the whole.
                seen = [seen_at(piece, point) for piece in pieces]
                self.assertEqual([one for one in seen if one is not None], [told])
                count += len(pieces) == 2
        self.assertGreater(count, 100)


class HandedIn(unittest.TestCase):
    def test_told_is_new_each_time(self):
        for asked in (seen_at, hit):
            first, second = asked(STEEP, (1, 1, 1)), asked(STEEP, (1, 1, 1))
            self.assertEqual(first, second)
            self.assertIsNot(first, second)

    def test_stays_as_it_was(self):
        for asked, triangle in ((seen_at, STEEP), (hit, STEEP), (hit, THROUGH)):
            before = copy.deepcopy(triangle)
            asked(triangle, (1, 1, 1))
            self.assertEqual(triangle, before)


class Interface(unittest.TestCase):
    def test_names_and_arguments(self):
        for name in ("seen_at", "hit"):
            self.assertEqual(list(inspect.signature(getattr(module, name)).parameters), ["triangle", "point"])


if __name__ == "__main__":
    unittest.main()
