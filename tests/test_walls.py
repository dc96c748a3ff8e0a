"""[4.1] forms, [4.2] and [4.3] triangles cut by a wall, [4.4] the walls of the eye and several walls; [0.2]."""

import copy
import inspect
import itertools
import math
import unittest

from sampleyard import walls as module
from sampleyard.corners import check_triangle, mixed
from sampleyard.edges import crossings, had
from sampleyard.seen import seen_at
from sampleyard.walls import cut, eyewalls, form, within

MOST = 10 ** 6


def at(x, y, w=1, h=1, values=()):
    return (x, y, w, h, values)


class Form(unittest.TestCase):
    def test_form(self):
        for wall, corner, expected in (
            ((0, 0, 0, 0), at(5, 6, 7, 8), 0), ((1, 0, 0, 0), at(5, 6, 7, 8), 5), ((0, 1, 0, 0), at(5, 6, 7, 8), 6),
            ((0, 0, 1, 0), at(5, 6, 7, 8), 7), ((0, 0, 0, 1), at(5, 6, 7, 8), 8), ((1, -2, 3, -4), at(5, 6, 7, 8), -18),
            ((0, 0, 1, -2), at(9, 9, 6, 3, (1,)), 0), ((-3, 0, 5, 0), at(-4, 1, -2), 2),
            ((MOST, -MOST, MOST, -MOST), at(MOST, -MOST, MOST, 1), 3 * MOST * MOST - MOST),
            ((2, 3, 5, 7), at(10 ** 30, -(10 ** 31), 10 ** 32, 10 ** 33), 10 ** 30 * (2 - 30 + 500 + 7000)),
        ):
            self.assertEqual(form(wall, corner), expected)

    def test_values_play_no_part(self):
        for values in ((), (1,), (4, -5), (7, 8, 9)):
            self.assertEqual(form((1, 2, 3, 4), at(1, 1, 1, 1, values)), 10)


# x from 3 on is within; the forms are x - 3 h.
WALL = (1, 0, 0, -3)
LOW = at(0, 0, 1, 1, (0, 6))
HIGH = at(9, 0, 1, 1, (9, 0))
TOP = at(0, 6, 1, 1, (0, 0))
FAR_TOP = at(9, 6, 1, 1, (18, 3))


class NoCut(unittest.TestCase):
    def test_no_corner_without(self):
        for triangle in (
            (at(3, 0), at(9, 0), at(9, 6)), (at(3, 0), at(3, 6), at(9, 6)), (at(4, 0), at(5, 0), at(6, 6)),
            (at(3, 0), at(3, 1), at(3, 2)), (at(6, 2, -5, 2), at(9, 0, 0), at(90, 6)),
        ):
            self.assertEqual(cut(triangle, WALL), ([triangle], []))

    def test_no_corner_within(self):
        for triangle in ((at(0, 0), at(2, 0), at(2, 6)), (at(5, 0, 1, 2), at(2, 0, 0), at(-9, 6, -4))):
            self.assertEqual(cut(triangle, WALL), ([], [triangle]))

    def test_the_triangle_stays_as_it_is(self):
        # Numbers with a common part are not divided here.
        triangle = (at(8, 4, 2, 2, (6,)), at(20, 0, 4, 4, (8,)), at(30, 60, 10, 10, (0,)))
        self.assertEqual(cut(triangle, WALL), ([triangle], []))
        self.assertEqual(cut(triangle, (-1, 0, 0, 0)), ([], [triangle]))

    def test_a_wall_of_nothing(self):
        triangle = (LOW, HIGH, TOP)
        self.assertEqual(cut(triangle, (0, 0, 0, 0)), ([triangle], []))
        self.assertEqual(cut(triangle, (0, 0, 0, 1)), ([triangle], []))
        self.assertEqual(cut(triangle, (0, 0, 0, -1)), ([], [triangle]))


class ThreePieces(unittest.TestCase):
    def test_alone_within(self):
        # (3, 0) and (3, 4) of the floor, with the values that stand there.
        ab, ca = at(3, 0, 1, 1, (3, 4)), at(3, 4, 1, 1, (3, 0))
        inside = [(HIGH, ca, ab)]
        outside = [(ca, TOP, LOW), (ca, LOW, ab)]
        self.assertEqual(cut((HIGH, TOP, LOW), WALL), (inside, outside))
        self.assertEqual(cut((LOW, HIGH, TOP), WALL), (inside, outside))
        self.assertEqual(cut((TOP, LOW, HIGH), WALL), (inside, outside))

    def test_alone_without(self):
        # The edges from (0, 0) to (9, 0) and from (9, 6) to (0, 0).
        ab, ca = at(3, 0, 1, 1, (3, 4)), at(3, 2, 1, 1, (6, 5))
        inside = [(ab, HIGH, FAR_TOP), (ab, FAR_TOP, ca)]
        outside = [(LOW, ab, ca)]
        self.assertEqual(cut((LOW, HIGH, FAR_TOP), WALL), (inside, outside))
        self.assertEqual(cut((HIGH, FAR_TOP, LOW), WALL), (inside, outside))
        self.assertEqual(cut((FAR_TOP, LOW, HIGH), WALL), (inside, outside))

    def test_the_other_way_round(self):
        ab, ca = at(3, 0, 1, 1, (3, 4)), at(3, 4, 1, 1, (3, 0))
        self.assertEqual(cut((HIGH, LOW, TOP), WALL), ([(HIGH, ab, ca)], [(ab, LOW, TOP), (ab, TOP, ca)]))

    def test_mixed_by_the_other_ones_form(self):
        a, b, c = at(6, 0, 4, 2, (1,)), at(-5, 8, 2, 3, (0,)), at(-7, 1, 5, 1, (4,))
        forms = [form((2, 1, 0, 1), corner) for corner in (a, b, c)]
        self.assertEqual(forms, [14, 1, -12])
        ca, bc = mixed(c, a, 14, 12), mixed(b, c, 12, 1)
        self.assertEqual(cut((a, b, c), (2, 1, 0, 1)), ([(ca, a, b), (ca, b, bc)], [(c, ca, bc)]))
        # The numbers of the mixed ones are divided as far as it goes.
        self.assertEqual(ca, at(-13, 7, 59, 19, (34,)))
        self.assertEqual(bc, at(-67, 97, 29, 37, (4,)))

    def test_form_of_nothing_alone_within(self):
        # The corner alone on its side stands right on the wall: its piece is flat.
        on = at(6, 2, 2, 2, (4,))
        low, other = at(0, 0, 1, 1, (1,)), at(0, 6, 1, 1, (7,))
        point = at(3, 1, 1, 1, (2,))
        outside = [(point, other, low), (point, low, point)]
        self.assertEqual(cut((on, other, low), WALL), ([(on, point, point)], outside))
        for place in [(px, py, 2) for px in range(-2, 9) for py in range(-2, 15)]:
            self.assertEqual([had((on, point, point), place), had((point, low, point), place)], [0, 0])

    def test_form_of_nothing_beside_a_corner_within(self):
        on, high, low = at(3, 0), at(9, 6), at(0, 6)
        self.assertEqual(
            cut((on, high, low), WALL),
            ([(at(3, 0), on, high), (at(3, 0), high, at(3, 6))], [(low, at(3, 0), at(3, 6))]),
        )

    def test_both_corners_within_on_the_wall(self):
        on, other, low = at(3, 0), at(3, 6), at(0, 6)
        self.assertEqual(
            cut((on, other, low), WALL), ([(on, on, other), (on, other, other)], [(low, on, other)]),
        )

    def test_first_corners_and_order(self):
        for triangle, wall in CUTS:
            inside, outside = cut(triangle, wall)
            are_within = [form(wall, corner) >= 0 for corner in triangle]
            if are_within.count(True) in (0, 3):
                continue
            place = are_within.index(are_within.count(True) == 1)
            a, b, c = triangle[place], triangle[(place + 1) % 3], triangle[(place + 2) % 3]
            sides = [inside, outside] if are_within[place] else [outside, inside]
            self.assertEqual([len(sides[0]), len(sides[1])], [1, 2])
            ab, ca = sides[0][0][1], sides[0][0][2]
            self.assertEqual(sides, [[(a, ab, ca)], [(ab, b, c), (ab, c, ca)]])
            self.assertEqual(ab, mixed(a, b, abs(form(wall, b)), abs(form(wall, a))))
            self.assertEqual(ca, mixed(c, a, abs(form(wall, a)), abs(form(wall, c))))
            self.assertEqual([form(wall, ab), form(wall, ca)], [0, 0])

    def test_kinds(self):
        for triangle, wall in CUTS:
            told = cut(triangle, wall)
            self.assertEqual([type(told), type(told[0]), type(told[1])], [tuple, list, list])
            for piece in told[0] + told[1]:
                self.assertIsNone(check_triangle(piece))

    def test_on_their_side(self):
        for triangle, wall in CUTS:
            inside, outside = cut(triangle, wall)
            for piece in inside:
                self.assertTrue(all([form(wall, corner) >= 0 for corner in piece]))
            for piece in outside:
                self.assertTrue(all([form(wall, corner) <= 0 for corner in piece]))


# Before the eye, of unlike w and h, with two values each.
BEFORE = (
    at(0, 0, 1, 1, (0, 8)), at(4, 0, 1, 1, (4, -8)), at(0, 12, 3, 2, (3, 1)), at(8, 8, 2, 5, (-6, 2)),
    at(2, 4, 2, 1, (9, 9)), at(15, 3, 3, 4, (0, 0)),
)
WALLS = (
    (1, 0, -2, 0), (-1, 0, 2, 0), (0, 1, -1, 0), (1, 1, -4, 0), (0, 0, 1, -1), (0, 0, -2, 3), (2, -3, 0, 1),
    (-1, 2, -5, 4), (1, -1, 0, 0),
)
CUTS = list(itertools.product(itertools.permutations(BEFORE, 3), WALLS))[::7]
# Whole places, places of halves, and those along the edges and the walls.
POINTS = [(px, py, 2) for px in range(-1, 11) for py in range(-1, 11)] + [(4, 8, 3), (5, 1, 1), (1, 1, 5), (16, 8, 5)]


class PiecesTogether(unittest.TestCase):
    def assertTogether(self, triangle, pieces, point):
        told = [had(piece, point) for piece in pieces]
        self.assertEqual(sum(told), had(triangle, point), (triangle, pieces, point))
        self.assertLessEqual(len(told) - told.count(0), 1)
        for piece, turn in zip(pieces, told):
            if turn != 0:
                self.assertEqual(seen_at(piece, point), seen_at(triangle, point))

    def test_they_have_what_the_triangle_has(self):
        for triangle, wall in CUTS:
            inside, outside = cut(triangle, wall)
            for point in POINTS[::2] + POINTS[-4:]:
                self.assertTogether(triangle, inside + outside, point)

    def test_at_their_own_corners_and_on_their_edges(self):
        for triangle, wall in CUTS[::3]:
            inside, outside = cut(triangle, wall)
            corners = [corner for piece in inside + outside for corner in piece]
            points = [corner[:3] for corner in corners]
            for one, other in zip(corners, corners[1:]):
                points.append(mixed(one, other, other[2], one[2])[:3])
            for point in points:
                self.assertTogether(triangle, inside + outside, point)

    def test_cut_again(self):
        for triangle, wall in CUTS[::5]:
            pieces = [triangle]
            for other in (wall,) + WALLS[:4]:
                cuts = [cut(piece, other) for piece in pieces]
                pieces = [piece for inside, outside in cuts for piece in inside + outside]
            for point in POINTS[::4] + POINTS[-4:]:
                self.assertTogether(triangle, pieces, point)

    def test_of_the_same_turn(self):
        triangle = (at(0, 0), at(8, 0), at(0, 8))
        for wall in ((1, 0, -3, 0), (-1, 0, 3, 0), (0, 1, -3, 0), (1, 1, -3, 0)):
            for turned, turn in ((triangle, 1), (triangle[::-1], -1)):
                inside, outside = cut(turned, wall)
                for piece in inside + outside:
                    middle = [sum([corner[place] * 10 ** 6 // corner[2] for corner in piece]) for place in (0, 1)]
                    self.assertEqual(had(piece, (middle[0], middle[1], 3 * 10 ** 6)), turn)

    def test_one_corner_whichever_way_the_edge_is_walked(self):
        one, other, top, low = BEFORE[0], BEFORE[3], BEFORE[2], BEFORE[1]
        for wall in WALLS:
            if (form(wall, one) >= 0) == (form(wall, other) >= 0):
                continue
            met = mixed(one, other, abs(form(wall, other)), abs(form(wall, one)))
            for triangle in ((one, other, top), (other, one, low), (top, one, other), (other, low, one)):
                inside, outside = cut(triangle, wall)
                self.assertIn(met, [corner for piece in inside + outside for corner in piece])

    def test_triangles_that_meet_along_an_edge(self):
        for (a, b, c, d), wall in itertools.product(itertools.permutations(BEFORE[:5], 4), WALLS):
            pieces = [piece for triangle in ((a, b, c), (b, a, d)) for side in cut(triangle, wall) for piece in side]
            edges = [edge for p in pieces for edge in ((p[0], p[1]), (p[1], p[2]), (p[2], p[0]))]
            # Each piece of the edge between them is walked as often one way as the other.
            along = [edge for edge in edges if is_between(a, b, edge)]
            for one, other in along:
                self.assertEqual(along.count((one, other)), along.count((other, one)))
            for point in POINTS[::31]:
                summed = had((a, b, c), point) + had((b, a, d), point)
                self.assertEqual(sum([had(piece, point) for piece in pieces]), summed)
                self.assertEqual(crossings([edge for edge in edges if edge not in along], point), summed)

    def test_a_square_cut_has_each_point_once(self):
        a, b, c, d = at(0, 0), at(4, 0), at(8, 8, 2), at(0, 4)
        for wall in WALLS + ((3, 5, -16, 0), (1, 0, -4, 0), (1, 1, -4, 0)):
            pieces = [piece for triangle in ((a, b, c), (a, c, d)) for side in cut(triangle, wall) for piece in side]
            for px, py, s in POINTS:
                told = [had(piece, (px, py, s)) for piece in pieces]
                is_within = 0 <= px < 4 * s and 0 <= py < 4 * s
                self.assertEqual([told.count(1), told.count(-1)], [int(is_within), 0])


def is_between(a, b, edge):
    """whether the edge lies on the straight line in space from a to b"""
    return all([lies_on(a, b, corner) for corner in edge]) and edge[0] != edge[1]


def lies_on(a, b, corner):
    # Three corners stand in one line where all threes of x, y, w, h depend on one another.
    for places in itertools.combinations(range(4), 3):
        (p, q, r), (s, t, u), (v, w, x) = [[one[place] for place in places] for one in (a, b, corner)]
        if p * (t * x - u * w) - q * (s * x - u * v) + r * (s * w - t * v) != 0:
            return False
    return True


class Eyewalls(unittest.TestCase):
    def test_six_in_their_order(self):
        self.assertEqual(eyewalls(8, 6, 2, 100), [
            (0, 0, 1, -2), (0, 0, -1, 100), (1, 0, 0, 0), (-1, 0, 8, 0), (0, 1, 0, 0), (0, -1, 6, 0),
        ])
        self.assertEqual(eyewalls(1, 64, 1, 1), [
            (0, 0, 1, -1), (0, 0, -1, 1), (1, 0, 0, 0), (-1, 0, 1, 0), (0, 1, 0, 0), (0, -1, 64, 0),
        ])

    def test_within_them_stands_what_the_floor_shows(self):
        walls = eyewalls(8, 6, 2, 10)
        for corner, is_within in (
            (at(0, 0, 2), True), (at(16, 12, 2), True), (at(80, 60, 10), True), (at(8, 6, 5), True),
            (at(0, 0, 3, 2), False), (at(0, 0, 11), False), (at(-1, 0, 2), False), (at(17, 0, 2), False),
            (at(0, -1, 2), False), (at(0, 13, 2), False), (at(0, 0, 20, 2), True), (at(0, 0, -5), False),
        ):
            self.assertEqual(min([form(wall, corner) for wall in walls]) >= 0, is_within, corner)

    def test_told_is_new_each_time(self):
        first = eyewalls(8, 6, 2, 10)
        first.clear()
        self.assertEqual(len(eyewalls(8, 6, 2, 10)), 6)


def within_by_hand(triangle, walls):
    if not walls:
        return [triangle]
    return [left for piece in cut(triangle, walls[0])[0] for left in within_by_hand(piece, walls[1:])]


class Within(unittest.TestCase):
    def test_no_wall(self):
        for triangle in itertools.combinations(BEFORE, 3):
            self.assertEqual(within(triangle, []), [triangle])

    def test_one_wall(self):
        for triangle, wall in CUTS:
            self.assertEqual(within(triangle, [wall]), cut(triangle, wall)[0])

    def test_order(self):
        # First (3, 0) and (3, 2) are cut off, then the top at y of 3; each piece is cut in its turn.
        triangle = (at(0, 0), at(9, 0), at(9, 6))
        first = [(at(3, 0), at(9, 0), at(9, 6)), (at(3, 0), at(9, 6), at(3, 2))]
        self.assertEqual(within(triangle, [WALL]), first)
        lower = cut(first[0], (0, -1, 0, 3))[0] + cut(first[1], (0, -1, 0, 3))[0]
        self.assertEqual(len(lower), 4)
        self.assertEqual(within(triangle, [WALL, (0, -1, 0, 3)]), lower)
        self.assertNotEqual(within(triangle, [(0, -1, 0, 3), WALL]), lower)

    def test_all_within_and_none_within(self):
        triangle = (at(1, 1, 2), at(9, 2, 3), at(4, 7, 2))
        self.assertEqual(within(triangle, eyewalls(8, 8, 1, 9)), [triangle])
        self.assertEqual(within(triangle, eyewalls(8, 8, 4, 9)), [])
        self.assertEqual(within(triangle, eyewalls(8, 8, 1, 1)), [])
        self.assertEqual(within(triangle, [(0, 0, 0, -1), (0, 0, 0, 1)]), [])

    def test_by_hand(self):
        behind = (at(-7, 3, -2, 1, (5, 5)), at(20, -9, 0, 3, (1, 2)), at(0, 40, -6, 1, (0, -4)))
        lists = [list(WALLS), list(WALLS[::-1]), eyewalls(4, 3, 1, 2), list(WALLS[:2]), [WALLS[3]] * 3]
        for triangle in itertools.permutations(BEFORE + behind, 3):
            for walls in lists:
                told = within(triangle, walls)
                self.assertEqual(told, within_by_hand(triangle, walls))
                for piece in told:
                    self.assertTrue(all([form(wall, corner) >= 0 for wall in walls for corner in piece]))

    def test_corners_behind_the_eye(self):
        # One corner before the eye, two behind it; within the near wall a triangle is left.
        triangle = (at(4, 4, 4, 1, (8,)), at(-2, 0, -2, 1, (2,)), at(0, -2, -2, 1, (2,)))
        told = within(triangle, [(0, 0, 1, -1)])
        self.assertEqual(told, [(triangle[0], at(1, 2, 1, 1, (5,)), at(2, 1, 1, 1, (5,)))])
        told = within(triangle[::-1], [(0, 0, 1, -1)])
        self.assertEqual(told, [(triangle[0], at(2, 1, 1, 1, (5,)), at(1, 2, 1, 1, (5,)))])
        told = within((triangle[1], triangle[0], at(0, 4, 4, 1, (8,))), [(0, 0, 1, -1)])
        self.assertEqual(len(told), 2)
        self.assertTrue(all([corner[2] >= corner[3] for piece in told for corner in piece]))
        self.assertEqual(within((triangle[1], triangle[2], triangle[1]), [(0, 0, 1, -1)]), [])

    def test_they_have_what_the_triangle_has_there(self):
        walls = [(1, 0, -1, 0), (-1, 0, 3, 0), (0, 1, -1, 0), (0, -1, 3, 0)]
        for triangle in itertools.permutations(BEFORE, 3):
            pieces = within(triangle, walls)
            for px, py in itertools.product(range(-1, 5), range(-1, 5)):
                # Within the square from (1, 1) to (3, 3), whose left and lower edges belong to it.
                expected = had(triangle, (px, py, 1)) if 1 <= px < 3 and 1 <= py < 3 else 0
                told = [had(piece, (px, py, 1)) for piece in pieces]
                self.assertEqual([sum(told), len(told) - told.count(0)], [expected, abs(expected)])


class HandedIn(unittest.TestCase):
    def test_stays_as_it_was(self):
        walls = eyewalls(4, 3, 1, 2)
        before = copy.deepcopy(walls)
        for triangle in itertools.combinations(BEFORE, 3):
            kept = copy.deepcopy(triangle)
            within(triangle, walls)
            self.assertEqual([walls, triangle], [before, kept])

    def test_nothing_is_kept(self):
        triangle = (LOW, HIGH, TOP)
        walls = [WALL]
        first = within(triangle, walls)
        walls.append((0, 0, 0, -1))
        self.assertEqual(within(triangle, walls), [])
        walls.clear()
        self.assertEqual(within(triangle, walls), [triangle])
        self.assertEqual(within(triangle, [WALL]), first)

    def test_told_is_new_each_time(self):
        for triangle, wall in (((LOW, HIGH, TOP), WALL), ((LOW, HIGH, TOP), (0, 0, 0, 1))):
            expected = copy.deepcopy(cut(triangle, wall))
            told = cut(triangle, wall)
            told[0].append(None)
            told[1].clear()
            self.assertEqual(cut(triangle, wall), expected)
            left = within(triangle, [wall])
            left.clear()
            self.assertEqual(within(triangle, [wall]), expected[0])


class ManyFigures(unittest.TestCase):
    def test_mixed_corners_stay_in_lowest_numbers(self):
        most = (at(-MOST, MOST, MOST, 1, (MOST,)), at(MOST, 7, 3, MOST, (-MOST,)), at(1, -MOST, MOST - 1, 9, (0,)))
        walls = [(-MOST, -1, 3, -7), (-MOST, 3, MOST, -1), (5, -MOST, 999999, 11), (-1, -2, -3, MOST)]
        pieces = within(most, walls)
        self.assertEqual(pieces, within_by_hand(most, walls))
        self.assertEqual(len(pieces), 6)
        for piece in pieces:
            for corner in piece:
                if corner not in most:
                    self.assertEqual(math.gcd(*corner[:4], *corner[4]), 1)


class Interface(unittest.TestCase):
    def test_names_and_arguments(self):
        for name, arguments in (
            ("form", ["wall", "corner"]), ("cut", ["triangle", "wall"]),
            ("eyewalls", ["width", "height", "near", "far"]), ("within", ["triangle", "walls"]),
        ):
            self.assertEqual(list(inspect.signature(getattr(module, name)).parameters), arguments)


if __name__ == "__main__":
    unittest.main()
