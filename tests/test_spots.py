"""[8.1] spots, [8.2] masks and shares of a cell, [8.3] what follows; [0.2] and [0.3] of them."""

import copy
import inspect
import itertools
import math
import unittest
from fractions import Fraction

from sampleyard import spots as module
from sampleyard.edges import crossings, had
from sampleyard.errors import BadTriangle, YardError
from sampleyard.rows import middle, row_mask
from sampleyard.spots import mask, share, spot_at

# Small beside every place of the small numbers below.
HAIR = Fraction(1, 10 ** 9)
ALL_SPOTS = [(dx, dy) for dy in range(1, 8) for dx in range(1, 8)]
FINE = [(2, 2), (6, 2), (2, 6), (6, 6)]
SIXTEEN = ALL_SPOTS[::3][:16]
LISTS = [
    [(4, 4)], [(1, 7)], [(7, 1), (1, 1)], [(1, 1), (7, 7), (4, 4)], FINE, FINE[::-1], ALL_SPOTS[20:35][::-1],
    SIXTEEN, SIXTEEN[7:] + SIXTEEN[:7], ALL_SPOTS[-16:],
]
CELLS = [(column, row) for column in (-3, -1, 0, 1, 4) for row in (-2, -1, 0, 2, 3)]


def at(x, y, w=1, h=1, values=()):
    return (x, y, w, h, values)


# On corners of cells, on spots, between them, far without, below 0, and of unlike w and h.
CORNERS = [
    at(0, 0), at(4, 0), at(3, 4, 1, 7), at(-17, -9, 8), at(9, 36, 8, 2), at(-10, 7, 3), at(30, -1, 2), at(1, 1, 2),
]
TRIANGLES = list(itertools.combinations(CORNERS, 3)) + [
    (at(0, 0), at(0, 1), at(1, 0)), (at(2, 2), at(0, 2), at(2, 0)), (at(0, 0), at(2, 2), at(9, 9)), (at(1, 1),) * 3,
]
WHOLE = (at(-200, -200), at(500, -200), at(-200, 500))
FAR = (at(90, 90), at(91, 90), at(90, 91))
# Over the cell in column 0 of row 0: the half with the lower left corner, and the other one.
HALVES = [(at(0, 0), at(1, 0), at(0, 1)), (at(1, 1), at(0, 1), at(1, 0))]


def has_by_hand(triangle, column, row, spot):
    """whether the triangle has the spot: asked of places, the spot's moved by a hair right and a hair of it up"""
    x = column + Fraction(spot[0], 8) + HAIR
    y = row + Fraction(spot[1], 8) + HAIR * HAIR
    places = [(Fraction(corner[0], corner[2]) - x, Fraction(corner[1], corner[2]) - y) for corner in triangle]
    turns = [a[0] * b[1] - a[1] * b[0] for a, b in zip(places, places[1:] + places[:1])]
    return min(turns) > 0 or max(turns) < 0


def bits_of(bits, count):
    return [(bits >> number) & 1 for number in range(count)]


class SpotAt(unittest.TestCase):
    def test_named_ones(self):
        for column, row, spot, expected in (
            (0, 0, (4, 4), (4, 4, 8)), (1, 0, (4, 4), (12, 4, 8)), (0, 1, (4, 4), (4, 12, 8)),
            (2, 3, (1, 7), (17, 31, 8)), (63, 63, (7, 7), (511, 511, 8)), (-1, 0, (1, 2), (-7, 2, 8)),
            (0, -1, (1, 2), (1, -6, 8)), (-64, -5, (7, 1), (-505, -39, 8)),
        ):
            told = spot_at(column, row, spot)
            self.assertEqual(told, expected)
            self.assertEqual([type(told)] + [type(number) for number in told], [tuple, int, int, int])

    def test_so_many_eighths_from_the_corner(self):
        for (column, row), (dx, dy) in itertools.product(CELLS, ALL_SPOTS):
            px, py, s = spot_at(column, row, (dx, dy))
            self.assertEqual(s, 8)
            self.assertEqual(Fraction(px, s) - column, Fraction(dx, 8))
            self.assertEqual(Fraction(py, s) - row, Fraction(dy, 8))

    def test_four_and_four_is_the_middle(self):
        for column, row in CELLS:
            px, py, s = spot_at(column, row, (4, 4))
            self.assertEqual((px * 2, py * 2, s * 2), tuple([8 * number for number in middle(column, row)]))


class Mask(unittest.TestCase):
    def test_halves_of_a_cell(self):
        # The slanted edge goes through (2, 6) and (6, 2): those are the other half's.
        self.assertEqual(mask(HALVES[0], 0, 0, FINE), 0b0001)
        self.assertEqual(mask(HALVES[1], 0, 0, FINE), 0b1110)
        self.assertEqual(mask(HALVES[0], 0, 0, [(1, 1), (1, 6), (1, 7), (6, 1), (7, 1), (3, 4), (4, 4)]), 0b0101011)

    def test_upright_and_level_edges_through_spots(self):
        # Over the cells from (0, 0) on, its lower and left edges at 4 eighths: a spot on these is its own.
        triangle = (at(4, 4, 8), at(100, 4, 8), at(4, 100, 8))
        spots = [(3, 3), (4, 3), (5, 3), (3, 4), (4, 4), (5, 4), (3, 5), (4, 5), (5, 5)]
        self.assertEqual(bits_of(mask(triangle, 0, 0, spots), 9), [0, 0, 0, 0, 1, 1, 0, 1, 1])
        # With these edges above and to the right it is without them.
        triangle = (at(4, 4, 8), at(-92, 4, 8), at(4, -92, 8))
        self.assertEqual(bits_of(mask(triangle, 0, 0, spots), 9), [1, 0, 0, 0, 0, 0, 0, 0, 0])

    def test_one_spot(self):
        for spot in ALL_SPOTS:
            expected = int(spot[0] + spot[1] < 8)
            self.assertEqual(mask(HALVES[0], 0, 0, [spot]), expected)
            self.assertEqual(mask(HALVES[1], 0, 0, [spot]), 1 - expected)

    def test_sixteen_spots(self):
        for spots in (SIXTEEN, SIXTEEN[::-1], ALL_SPOTS[:16], ALL_SPOTS[-16:]):
            expected = sum([1 << k for k, spot in enumerate(spots) if spot[0] + spot[1] < 8])
            self.assertEqual(mask(HALVES[0], 0, 0, spots), expected)
            self.assertEqual(mask(WHOLE, 0, 0, spots), 0xFFFF)
            self.assertEqual(mask(FAR, 0, 0, spots), 0)

    def test_by_hand(self):
        for triangle, (column, row) in itertools.product(TRIANGLES[::3] + TRIANGLES[-4:], CELLS):
            has = {spot: has_by_hand(triangle, column, row, spot) for spot in ALL_SPOTS}
            for spots in LISTS:
                told = mask(triangle, column, row, spots)
                self.assertIs(type(told), int)
                self.assertEqual(bits_of(told, len(spots)), [int(has[spot]) for spot in spots])
                self.assertEqual(told >> len(spots), 0)

    def test_against_had(self):
        for triangle, (column, row), spots in itertools.product(TRIANGLES[::4], CELLS[::3], LISTS):
            told = mask(triangle, column, row, spots)
            for k, (dx, dy) in enumerate(spots):
                point = (8 * column + dx, 8 * row + dy, 8)
                self.assertEqual((told >> k) & 1, int(had(triangle, point) != 0))

    def test_in_the_order_of_the_list(self):
        for spots in itertools.permutations(FINE):
            told = mask(HALVES[0], 0, 0, list(spots))
            self.assertEqual(told, 1 << spots.index((2, 2)))

    def test_either_turn(self):
        for (a, b, c), (column, row) in itertools.product(TRIANGLES, CELLS[::2]):
            told = mask((a, b, c), column, row, SIXTEEN)
            self.assertEqual(mask((c, b, a), column, row, SIXTEEN), told)
            self.assertEqual(mask((b, c, a), column, row, SIXTEEN), told)

    def test_columns_and_rows_are_not_taken_for_one_another(self):
        triangle = (at(2, 0), at(3, 0), at(2, 1))
        self.assertEqual(mask(triangle, 2, 0, FINE), 1)
        self.assertEqual(mask(triangle, 0, 2, FINE), 0)
        below = (at(-2, -1), at(-1, -1), at(-2, 0))
        self.assertEqual(mask(below, -2, -1, FINE), 1)
        self.assertEqual(mask(below, -1, -2, FINE), 0)
        self.assertEqual(mask(below, 2, 1, FINE), 0)

    def test_flat(self):
        for triangle in TRIANGLES[-2:]:
            for column, row in CELLS:
                self.assertEqual(mask(triangle, column, row, SIXTEEN), 0)


class Share(unittest.TestCase):
    def test_none_and_all(self):
        for spots, (column, row) in itertools.product(LISTS, CELLS):
            self.assertEqual(share(FAR, column, row, spots), (0, 1))
            self.assertEqual(share(WHOLE, column, row, spots), (1, 1))
            self.assertEqual(share(WHOLE[::-1], column, row, spots), (1, 1))

    def test_between(self):
        self.assertEqual(share(HALVES[0], 0, 0, FINE), (1, 4))
        self.assertEqual(share(HALVES[1], 0, 0, FINE), (3, 4))
        self.assertEqual(share(HALVES[1], 0, 0, FINE[:2]), (1, 2))
        self.assertEqual(share(HALVES[0], 0, 0, FINE + [(1, 1)]), (2, 5))

    def test_lowest_terms(self):
        # Two of four, four of sixteen, six of nine.
        self.assertEqual(share(HALVES[0], 0, 0, [(1, 1), (1, 2), (7, 7), (7, 6)]), (1, 2))
        self.assertEqual(share(HALVES[0], 0, 0, ALL_SPOTS[:4] + ALL_SPOTS[-12:]), (1, 4))
        self.assertEqual(share(HALVES[0], 0, 0, ALL_SPOTS[:6] + ALL_SPOTS[-3:]), (2, 3))

    def test_by_hand(self):
        for triangle, (column, row), spots in itertools.product(TRIANGLES[::2], CELLS[::2], LISTS):
            count = [has_by_hand(triangle, column, row, spot) for spot in spots].count(True)
            told = share(triangle, column, row, spots)
            expected = Fraction(count, len(spots))
            self.assertEqual(told, (expected.numerator, expected.denominator))
            self.assertEqual([type(told)] + [type(number) for number in told], [tuple, int, int])
            self.assertEqual(math.gcd(*told), 1)

    def test_the_order_of_the_list_plays_no_part(self):
        for spots in itertools.permutations(FINE):
            self.assertEqual(share(HALVES[0], 0, 0, list(spots)), (1, 4))


class Refused(unittest.TestCase):
    def test_w_of_nothing_and_below(self):
        for triangle in (HALVES[0], WHOLE, FAR, TRIANGLES[-1]):
            for place, w in itertools.product(range(3), (0, -1, -(10 ** 6))):
                corner = triangle[place]
                wrong = triangle[:place] + (corner[:2] + (w,) + corner[3:],) + triangle[place + 1:]
                for asked, spots in itertools.product((mask, share), LISTS):
                    for column, row in ((0, 0), (-3, 2), (63, 63)):
                        with self.assertRaises(BadTriangle) as caught:
                            asked(wrong, column, row, spots)
                        self.assertIs(type(caught.exception), BadTriangle)
                        self.assertIsInstance(caught.exception, YardError)

    def test_mask_without_spots(self):
        self.assertEqual(mask(WHOLE, 0, 0, []), 0)
        with self.assertRaises(BadTriangle):
            mask((WHOLE[0], WHOLE[1], at(0, 0, 0)), 0, 0, [])


def net(corners):
    """the triangles of a net of corners, in rows: two for each of its meshes"""
    found = []
    for lower, upper in zip(corners, corners[1:]):
        for a, b, d, c in zip(lower, lower[1:], upper, upper[1:]):
            found += [(a, b, c), (a, c, d)]
    return found


# The border is the square from (-2, -2) to (4, 4); the corners within stand on spots and beside them, with unlike w.
NET = net([
    [at(-2, -2), at(1, -4, 2), at(4, -2)],
    [at(-6, 3, 3), at(13, 9, 8), at(8, 3, 2)],
    [at(-2, 4), at(3, 12, 3), at(12, 12, 3)],
])
FAN_CORNERS = [at(-2, -2), at(4, -2), at(8, 8, 2), at(-2, 4)]
FAN = [(at(5, 7, 8), one, other) for one, other in zip(FAN_CORNERS, FAN_CORNERS[1:] + FAN_CORNERS[:1])]
WITHIN = [(column, row) for column in range(-2, 4) for row in range(-2, 4)]
AROUND = [(column, row) for column in range(-4, 7) for row in range(-4, 7) if (column, row) not in WITHIN]


class Filled(unittest.TestCase):
    def test_no_bit_is_shared_and_all_are_there(self):
        for triangles, (column, row), spots in itertools.product((NET, FAN, NET[::-1]), WITHIN, LISTS):
            masks = [mask(triangle, column, row, spots) for triangle in triangles]
            for one, other in itertools.combinations(masks, 2):
                self.assertEqual(one & other, 0)
            # With no bit shared the sum has all bits just where they are all there.
            self.assertEqual(sum(masks), (1 << len(spots)) - 1)

    def test_shares_come_to_one(self):
        for triangles, (column, row), spots in itertools.product((NET, FAN), WITHIN, LISTS):
            shares = [Fraction(*share(triangle, column, row, spots)) for triangle in triangles]
            self.assertEqual(sum(shares), 1)

    def test_without_there_is_none(self):
        for triangles, (column, row) in itertools.product((NET, FAN), AROUND):
            self.assertEqual([mask(triangle, column, row, SIXTEEN) for triangle in triangles], [0] * len(triangles))

    def test_cells_that_the_border_goes_through(self):
        # A slanted shape: the bits together are those that the border's crossings have.
        corners = [at(-7, -3, 4), at(14, 1, 4), at(29, 33, 8), at(1, 12, 3)]
        border = list(zip(corners, corners[1:] + corners[:1]))
        triangles = [(at(9, 10, 8), one, other) for one, other in border]
        seen = 0
        for (column, row), spots in itertools.product(WITHIN, LISTS):
            masks = [mask(triangle, column, row, spots) for triangle in triangles]
            expected = [crossings(border, spot_at(column, row, spot)) for spot in spots]
            self.assertEqual(bits_of(sum(masks), len(spots)), expected)
            seen += 0 < sum(expected) < len(spots)
        self.assertGreater(seen, 20)


class TwiceAsFine(unittest.TestCase):
    def test_middles_of_four_cells(self):
        for triangle in TRIANGLES + NET + FAN:
            doubled = tuple([(2 * x, 2 * y, w, h, values) for x, y, w, h, values in triangle])
            for column, row in CELLS:
                told = bits_of(mask(triangle, column, row, FINE), 4)
                four = [(2 * column, 2 * row), (2 * column + 1, 2 * row)]
                four += [(one, other + 1) for one, other in four]
                self.assertEqual(told, [int(had(doubled, middle(one, other)) != 0) for one, other in four])

    def test_row_masks_of_the_finer_floor(self):
        for triangle in TRIANGLES + NET + FAN:
            doubled = tuple([(2 * x, 2 * y, w, h, values) for x, y, w, h, values in triangle])
            for column, row in itertools.product(range(4), range(4)):
                lower = (row_mask(doubled, 8, 2 * row) >> (2 * column)) & 3
                upper = (row_mask(doubled, 8, 2 * row + 1) >> (2 * column)) & 3
                self.assertEqual(mask(triangle, column, row, FINE), lower | (upper << 2))


class HandedIn(unittest.TestCase):
    def test_stays_as_it_was(self):
        for asked, triangle, spots in itertools.product((mask, share), (HALVES[0], WHOLE), LISTS):
            before = copy.deepcopy((triangle, spots))
            first = asked(triangle, 0, 0, spots)
            self.assertEqual((triangle, spots), before)
            self.assertEqual(asked(triangle, 0, 0, spots), first)

    def test_nothing_is_kept(self):
        spots = [(1, 1), (7, 7)]
        self.assertEqual([mask(HALVES[0], 0, 0, spots), share(HALVES[0], 0, 0, spots)], [0b01, (1, 2)])
        spots.append((2, 1))
        self.assertEqual([mask(HALVES[0], 0, 0, spots), share(HALVES[0], 0, 0, spots)], [0b101, (2, 3)])
        spots[0] = (7, 6)
        self.assertEqual([mask(HALVES[0], 0, 0, spots), share(HALVES[0], 0, 0, spots)], [0b100, (1, 3)])
        spots.reverse()
        self.assertEqual(mask(HALVES[0], 0, 0, spots), 0b001)

    def test_told_is_new_each_time(self):
        for make in (lambda: spot_at(2, 3, (4, 4)), lambda: share(HALVES[0], 0, 0, FINE)):
            first = make()
            second = make()
            self.assertEqual(first, second)
            self.assertIsNot(first, second)


class Interface(unittest.TestCase):
    def test_names_and_arguments(self):
        for name, arguments in (
            ("spot_at", ["column", "row", "spot"]), ("mask", ["triangle", "column", "row", "spots"]),
            ("share", ["triangle", "column", "row", "spots"]),
        ):
            self.assertEqual(list(inspect.signature(getattr(module, name)).parameters), arguments)


if __name__ == "__main__":
    unittest.main()
