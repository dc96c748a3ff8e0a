"""[6.2] the colour seen at a point, [6.3] pictures, [6.4] doubtful cells; [0.2] and [0.3] of them."""

import copy
import inspect
import itertools
from fractions import Fraction

from scenes import (
    ALL_SPOTS, FOUR, NO_FLOORS, NO_SPOTS, PATTERN, SIXTEEN, Case, all_told_of, colour_by_hand, level_things, over,
    picture_by_hand, plain, seen_by_hand, sheet, things_of,
)

from sampleyard import paint as module
from sampleyard.corners import mixed
from sampleyard.errors import BadFloor
from sampleyard.paint import colour_seen, doubtful, paint
from sampleyard.things import Glass, Patterned, Plain, Shaded
from sampleyard.walls import cut, eyewalls, within

P = (17, 9, 8)
GROUND = (7, 3)
POINTS = [(px, py, s) for px, py in itertools.product((-3, 0, 1, 4, 7, 16), repeat=2) for s in (1, 2)]


def pane(depth, colour, part):
    return Glass(sheet(depth), colour, part)


class OneThing(Case):
    def test_no_thing(self):
        for ground, p in itertools.product([(0, 1), (7, 3), (-5, 1), (10 ** 30, 7)], POINTS[::9]):
            self.assertEqual(colour_seen([], p, ground), ground)

    def test_none_seen(self):
        things = plain(over(50, 50, 60, 60), (1, 2)) + [Glass(over(5, 5, 9, 9)[0], (1, 2), (1, 1))]
        self.assertEqual(colour_seen(things, P, GROUND), GROUND)

    def test_plain(self):
        for colour in ((0, 1), (1, 2), (-9, 4), (10 ** 30, 3)):
            self.assertEqual(colour_seen([Plain(sheet((2, 1)), colour)], P, GROUND), colour)

    def test_shaded(self):
        triangle = ((0, 0, 1, 1, (0, 5)), (8, 0, 1, 1, (8, 5)), (0, 8, 1, 1, (16, 5)))
        self.assertEqual(colour_seen([Shaded(triangle)], (1, 1, 1), GROUND), (3, 1))
        self.assertEqual(colour_seen([Shaded(triangle)], (1, 1, 2), GROUND), (3, 2))

    def test_shaded_as_the_eye_sees_it(self):
        # Halfway on the floor the ray meets the near end's third.
        triangle = ((0, 0, 1, 1, (0,)), (16, 0, 2, 1, (3,)), (0, 8, 1, 1, (0,)))
        self.assertEqual(colour_seen([Shaded(triangle)], (4, 0, 1), GROUND), (1, 1))

    def test_patterned(self):
        triangle = ((0, 0, 1, 1, (0, 0)), (8, 0, 1, 1, (8, 0)), (0, 8, 1, 1, (0, 8)))
        thing = Patterned(triangle, PATTERN)
        for p, expected in (((0, 0, 1), (1, 1)), ((1, 0, 1), (0, 1)), ((1, 3, 2), (1, 2)), ((3, 7, 2), (-3, 1))):
            self.assertEqual(colour_seen([thing], p, GROUND), expected)

    def test_on_edges_just_one_has_the_point(self):
        one, other = over(0, 0, 4, 4)
        for k in range(4):
            self.assertEqual(colour_seen([Plain(one, (1, 1))], (k, k, 1), GROUND), (1, 1))
            self.assertEqual(colour_seen([Plain(other, (2, 1))], (k, k, 1), GROUND), GROUND)


class Nearest(Case):
    def test_of_least_depth(self):
        depths = [(3, 1), (1, 1), (5, 2), (1, 3), (2, 1)]
        things = [Plain(sheet(depth), (number, 1)) for number, depth in enumerate(depths)]
        for order in itertools.permutations(range(5)):
            self.assertEqual(colour_seen([things[number] for number in order], P, GROUND), (3, 1))

    def test_of_alike_ones_the_first(self):
        # The same depth, in numbers that are not the same.
        things = [Plain(sheet(depth), (number, 1)) for number, depth in enumerate([(9, 1), (2, 4), (1, 2), (3, 6)])]
        for order in itertools.permutations(range(4)):
            first = [number for number in order if number > 0][0]
            self.assertEqual(colour_seen([things[number] for number in order], P, GROUND), (first, 1))

    def test_by_the_depth_at_the_point(self):
        # One slants from 1 to 3, the other lies at 2: they cross amid.
        slanted = ((-100, -10, 1, 1, ()), (300, -30, 3, 1, ()), (0, 900, 1, 1, ()))
        things = [Plain(slanted, (1, 1)), Plain(sheet((2, 1)), (2, 1))]
        told = [colour_seen(things, (px, -9, 1), GROUND) for px in (-90, -80, 80, 90)]
        self.assertEqual(told, [(1, 1), (1, 1), (2, 1), (2, 1)])

    def test_what_lies_elsewhere_hides_nothing(self):
        things = plain(over(4, 4, 5, 5, (1, 9)), (1, 1)) + [Plain(sheet((8, 1)), (2, 1))]
        self.assertEqual(colour_seen(things, P, GROUND), (2, 1))


class SeenThrough(Case):
    def test_over_the_ground_alone(self):
        self.assertEqual(colour_seen([pane((1, 1), (1, 1), (1, 3))], P, (7, 1)), (5, 1))
        self.assertEqual(colour_seen([pane((1, 1), (1, 2), (1, 4))], P, (-1, 3)), (-1, 8))

    def test_ahead_of_the_nearest(self):
        for order in (1, -1):
            things = [pane((1, 1), (4, 1), (1, 4)), Plain(sheet((2, 1)), (8, 1))][::order]
            self.assertEqual(colour_seen(things, P, GROUND), (7, 1))

    def test_at_the_same_depth_and_behind(self):
        for depth, order in itertools.product(((2, 1), (4, 2), (5, 2), (9, 1)), (1, -1)):
            things = [pane(depth, (4, 1), (1, 4)), Plain(sheet((2, 1)), (8, 1))][::order]
            self.assertEqual(colour_seen(things, P, GROUND), (8, 1))

    def test_by_the_nearest_alone(self):
        # Between two that aren't glass it is behind the nearest one.
        things = [Plain(sheet((1, 1)), (8, 1)), pane((2, 1), (4, 1), (1, 2)), Plain(sheet((3, 1)), (9, 1))]
        for order in itertools.permutations(things):
            self.assertEqual(colour_seen(list(order), P, GROUND), (8, 1))

    def test_greater_depth_first(self):
        # The ground 0, then half of it and half of 8, then half of that and half of 2: 3; the other way it were 9/2.
        things = [pane((1, 1), (2, 1), (1, 2)), pane((2, 1), (8, 1), (1, 2))]
        for order in (things, things[::-1]):
            self.assertEqual(colour_seen(order, P, (0, 1)), (3, 1))

    def test_of_alike_ones_the_later_first(self):
        things = [pane((1, 2), (2, 1), (1, 2)), pane((2, 4), (8, 1), (1, 2))]
        self.assertEqual(colour_seen(things, P, (0, 1)), (3, 1))
        self.assertEqual(colour_seen(things[::-1], P, (0, 1)), (9, 2))

    def test_many_orders(self):
        panes = [
            pane((1, 1), (1, 1), (1, 2)), pane((2, 1), (2, 1), (1, 3)), pane((2, 2), (3, 1), (1, 4)),
            pane((3, 2), (5, 1), (2, 3)), Plain(sheet((7, 4)), (-2, 1)),
        ]
        told = set()
        for order in itertools.permutations(panes):
            colour = colour_seen(list(order), P, GROUND)
            told.add(colour)
            self.assertEqual(Fraction(*colour), colour_by_hand(order, P, Fraction(*GROUND)))
        # Only the first and the third lie at one depth.
        self.assertEqual(len(told), 2)

    def test_parts_of_nothing_and_one(self):
        solid = Plain(sheet((2, 1)), (8, 1))
        for beneath, expected in (([solid], (8, 1)), ([], GROUND)):
            self.assertEqual(colour_seen(beneath + [pane((1, 1), (4, 1), (0, 1))], P, GROUND), expected)
            self.assertEqual(colour_seen(beneath + [pane((1, 1), (4, 1), (1, 1))], P, GROUND), (4, 1))

    def test_a_part_of_one_hides_what_is_glass_behind_it(self):
        things = [pane((1, 1), (4, 1), (1, 1)), pane((2, 1), (9, 1), (1, 2))]
        self.assertEqual(colour_seen(things, P, GROUND), (4, 1))
        # But it is glass: what lies ahead of it is laid over it.
        self.assertEqual(colour_seen(things + [pane((1, 2), (2, 1), (1, 2))], P, GROUND), (3, 1))

    def test_glass_is_never_the_nearest(self):
        things = [pane((1, 1), (4, 1), (1, 1)), Plain(sheet((3, 1)), (8, 1)), pane((2, 1), (6, 1), (1, 2))]
        for order in itertools.permutations(things):
            self.assertEqual(colour_seen(list(order), P, GROUND), (4, 1))


class ByHand(Case):
    def test_colours(self):
        for seed in range(12):
            things = things_of(seed, 7)
            for p in POINTS[seed % 2::2]:
                told = colour_seen(things, p, GROUND)
                self.assertFraction(told)
                self.assertEqual(Fraction(*told), colour_by_hand(things, p, Fraction(*GROUND)))

    def test_colours_of_alike_depths(self):
        for seed in range(12):
            things = level_things(seed)
            for p in POINTS[seed % 3::3]:
                told = colour_seen(things, p, GROUND)
                self.assertEqual(Fraction(*told), colour_by_hand(things, p, Fraction(*GROUND)))

    def test_pictures(self):
        for seed, spots in zip(range(6), ([(4, 4)], [(1, 7)], FOUR, SIXTEEN[:5], FOUR[:2], [(4, 4), (7, 7)])):
            for things in (things_of(seed), level_things(seed)):
                picture = paint(things, 7, 5, spots, GROUND)
                self.assertPicture(picture, 7, 5)
                self.assertEqual(picture, picture_by_hand(things, 7, 5, spots, GROUND))


class Pictures(Case):
    def test_middles(self):
        # Of (0, 0), (3, 0), (0, 3) the middles on the slanted edge are without.
        things = [Plain(((0, 0, 1, 1, ()), (3, 0, 1, 1, ()), (0, 3, 1, 1, ())), (1, 2))]
        a, b = (1, 2), (0, 1)
        self.assertEqual(paint(things, 4, 3), [[a, a, b, b], [a, b, b, b], [b, b, b, b]])

    def test_width_and_height(self):
        things = plain(over(1, 0, 2, 2), (1, 1))
        self.assertEqual(paint(things, 3, 1), [[(0, 1), (1, 1), (0, 1)]])
        self.assertEqual(paint(things, 1, 3), [[(0, 1)]] * 3)
        self.assertEqual(paint(things, 2, 3), [[(0, 1), (1, 1)]] * 2 + [[(0, 1), (0, 1)]])

    def test_spots_left_out(self):
        for seed in range(4):
            things = things_of(seed)
            told = paint(things, 6, 6, [(4, 4)], (0, 1))
            for given in ((), (None,), (None, None), ([(4, 4)],), ([(4, 4)], None), (None, (0, 1))):
                self.assertEqual(paint(things, 6, 6, *given), told)
            self.assertEqual(paint(things, 6, 6, ground=(0, 1), spots=[(4, 4)]), told)

    def test_ground_left_out_is_nothing(self):
        self.assertEqual(paint([], 2, 2), [[(0, 1)] * 2] * 2)
        self.assertEqual(paint([], 2, 2, FOUR), [[(0, 1)] * 2] * 2)
        self.assertEqual(paint([], 2, 1, ground=(7, 3)), [[(7, 3)] * 2])
        self.assertEqual(paint([], 1, 2, SIXTEEN, (7, 3)), [[(7, 3)]] * 2)

    def test_mean_of_the_spots(self):
        # Its edge cuts the cell at 4 eighths: of the four spots two are seen on it.
        things = [Plain(triangle, (1, 1)) for triangle in over(0, 0, 1, 2, (1, 2))]
        things = [Plain(tuple([(x, y, 2 * w, h, v) for x, y, w, h, v in thing.triangle]), (1, 1)) for thing in things]
        self.assertEqual(paint(things, 2, 1, FOUR), [[(1, 2), (0, 1)]])
        self.assertEqual(paint(things, 2, 1, FOUR, (1, 2)), [[(3, 4), (1, 2)]])
        self.assertEqual(paint(things, 2, 1, FOUR[:3], (1, 1)), [[(1, 1), (1, 1)]])
        self.assertEqual(paint(things, 2, 1, FOUR[:3]), [[(2, 3), (0, 1)]])

    def test_each_single_spot(self):
        triangle = ((0, 0, 1, 1, ()), (1, 0, 1, 1, ()), (0, 1, 1, 1, ()))
        for dx, dy in ALL_SPOTS:
            expected = (1, 1) if dx + dy < 8 else (0, 1)
            self.assertEqual(paint([Plain(triangle, (1, 1))], 1, 1, [(dx, dy)]), [[expected]])

    def test_sixteen_spots(self):
        triangle = ((0, 0, 1, 1, ()), (1, 0, 1, 1, ()), (0, 1, 1, 1, ()))
        for spots in (SIXTEEN, ALL_SPOTS[:16], ALL_SPOTS[-16:]):
            share = Fraction(len([1 for dx, dy in spots if dx + dy < 8]), 16)
            expected = (share.numerator, share.denominator)
            self.assertEqual(paint([Plain(triangle, (1, 1))], 1, 1, spots), [[expected]])

    def test_order_of_spots_plays_no_part(self):
        things = things_of(3)
        told = paint(things, 5, 4, SIXTEEN[:6])
        self.assertEqual(paint(things, 5, 4, SIXTEEN[:6][::-1]), told)

    def test_glass_at_each_spot_ahead_of_the_mean(self):
        # Half the spots are on the solid one, all under glass: the mean of 1/2 and 0, then not of the mean's.
        solid = [Plain(tuple([(x, y, 2 * w, 2 * h, v) for x, y, w, h, v in triangle]), (1, 1))
                 for triangle in over(0, 0, 1, 2)]
        self.assertEqual(paint(solid + [pane((1, 2), (0, 1), (1, 2))], 1, 1, FOUR), [[(1, 4)]])
        self.assertEqual(paint(solid + [pane((9, 1), (4, 1), (1, 2))], 1, 1, FOUR), [[(3, 2)]])

    def test_greatest_floors(self):
        triangle = ((0, 0, 1, 1, ()), (64, 0, 1, 1, ()), (0, 64, 1, 1, ()))
        picture = paint([Plain(triangle, (1, 2))], 64, 64, ground=(1, 3))
        self.assertPicture(picture, 64, 64)
        for row, column in itertools.product(range(64), repeat=2):
            # On the slanted edge lie the middles with column + row = 63.
            self.assertEqual(picture[row][column], (1, 2) if column + row < 63 else (1, 3))
        for width, height in ((64, 1), (1, 64), (1, 1)):
            expected = [row[:width] for row in picture[:height]]
            self.assertEqual(paint([Plain(triangle, (1, 2))], width, height, ground=(1, 3)), expected)


class WrongFloors(Case):
    def test_widths_and_heights(self):
        for wrong, right in itertools.product(NO_FLOORS, (1, 8, 64)):
            for call in (paint, doubtful):
                self.assertRefused(BadFloor, call, [], wrong, right)
                self.assertRefused(BadFloor, call, [], right, wrong)
                self.assertRefused(BadFloor, call, [], wrong, wrong)
                self.assertRefused(BadFloor, call, [], wrong, right, FOUR)

    def test_spots(self):
        for spots in NO_SPOTS:
            before = copy.deepcopy(spots)
            for things in ([], things_of(1)):
                self.assertRefused(BadFloor, paint, things, 2, 2, spots)
                self.assertRefused(BadFloor, paint, things, 2, 2, spots=spots, ground=(1, 2))
                self.assertRefused(BadFloor, doubtful, things, 2, 2, spots)
                self.assertRefused(BadFloor, doubtful, things, 2, 2, spots=spots)
            self.assertEqual(spots, before)

    def test_every_right_number(self):
        for number in range(1, 65):
            self.assertEqual(paint([], number, 1), [[(0, 1)] * number])
            self.assertEqual(paint([], 1, number), [[(0, 1)]] * number)
        for count in range(1, 17):
            self.assertEqual(paint([], 1, 1, ALL_SPOTS[-count:], (1, 2)), [[(1, 2)]])
            self.assertEqual(doubtful([], 1, 1, ALL_SPOTS[-count:]), [])


def doubtful_by_hand(things, width, height, spots):
    cells = []
    for row, column in itertools.product(range(height), range(width)):
        for dx, dy in spots:
            seen = [seen_by_hand(thing.triangle, (8 * column + dx, 8 * row + dy, 8)) for thing in things]
            depths = [sight[0] for sight in seen if sight]
            if len(set(depths)) < len(depths) and (column, row) not in cells:
                cells.append((column, row))
    return cells


class Doubtful(Case):
    def test_none(self):
        self.assertEqual(doubtful([], 4, 4), [])
        self.assertEqual(doubtful([Plain(sheet((1, 1)), (1, 1))], 4, 4), [])
        self.assertEqual(doubtful(plain([sheet((1, 1)), sheet((2, 1)), sheet((1, 2))], (1, 1)), 4, 4), [])

    def test_by_row_then_by_column(self):
        things = plain(over(1, 0, 3, 2) + over(2, 1, 9, 9), (1, 1))
        self.assertEqual(doubtful(things, 4, 4), [(2, 1)])
        things = plain(over(0, 0, 3, 2) + over(1, 0, 9, 9), (1, 1))
        self.assertEqual(doubtful(things, 4, 4), [(1, 0), (2, 0), (1, 1), (2, 1)])

    def test_triangles_that_meet_share_no_point(self):
        self.assertEqual(doubtful(plain(over(0, 0, 4, 4), (1, 1)), 4, 4, FOUR), [])

    def test_alike_colours_too(self):
        one = sheet((3, 2))
        for things in ([Plain(one, (1, 1))] * 2, [Plain(one, (1, 1)), Plain(sheet((6, 4)), (1, 1))]):
            self.assertEqual(doubtful(things, 2, 2), [(0, 0), (1, 0), (0, 1), (1, 1)])

    def test_glass_too(self):
        solid, glass = Plain(sheet((1, 1)), (1, 1)), pane((2, 2), (1, 1), (0, 1))
        for things in ([solid, glass], [glass, solid], [glass, pane((1, 1), (1, 2), (1, 2))]):
            self.assertEqual(doubtful(things, 2, 1), [(0, 0), (1, 0)])

    def test_hidden_ones_too(self):
        things = plain([sheet((1, 1)), sheet((2, 1)), sheet((4, 2))], (1, 1))
        for order in itertools.permutations(things):
            self.assertEqual(doubtful(list(order), 1, 1), [(0, 0)])

    def test_things_that_touch_no_spot(self):
        # Both lie in the cell (1, 0), between its spots: it is not the cell that decides.
        small = ((83, 18, 64, 64, ()), (95, 18, 64, 64, ()), (83, 30, 64, 64, ()))
        things = plain([small, small], (1, 1))
        self.assertEqual(doubtful(things, 3, 2), [])
        self.assertEqual(doubtful(things, 3, 2, FOUR), [])
        self.assertEqual(doubtful(things, 3, 2, [(4, 4), (3, 3)]), [(1, 0)])

    def test_at_one_and_the_same_spot(self):
        # Each is seen at a spot of the cell, at the same depth, but at no spot both.
        left, right = over(0, 0, 1, 2, (1, 1))[1], over(0, 0, 1, 2, (1, 1))[0]
        self.assertEqual(doubtful(plain([left, right], (1, 1)), 1, 1, FOUR), [])

    def test_any_of_the_spots(self):
        # They share the place of the last spot alone.
        one = over(0, 0, 4, 4)
        other = [tuple([(x, y, 8, 8, v) for x, y, w, h, v in triangle]) for triangle in over(5, 5, 32, 32)]
        things = plain(one + other, (1, 1))
        self.assertEqual(doubtful(things, 1, 1, FOUR[:3]), [])
        for spots in (FOUR, FOUR[::-1], [(6, 6)], FOUR[1:3] + FOUR[3:] + FOUR[:1]):
            self.assertEqual(doubtful(things, 1, 1, spots), [(0, 0)])

    def test_spots_left_out(self):
        for seed in range(3):
            things = level_things(seed)
            told = doubtful(things, 6, 6, [(4, 4)])
            self.assertEqual(doubtful(things, 6, 6), told)
            self.assertEqual(doubtful(things, 6, 6, None), told)

    def test_by_hand(self):
        some = 0
        for seed, spots in zip(range(8), itertools.cycle(([(4, 4)], FOUR, [(1, 7), (4, 4)]))):
            for things in (level_things(seed), things_of(seed) + things_of(seed)[2:4]):
                told = doubtful(things, 7, 5, spots)
                self.assertEqual(told, doubtful_by_hand(things, 7, 5, spots))
                some += len(told)
        self.assertGreater(some, 50)

    def test_off_them_the_order_plays_no_part(self):
        differing = 0
        for seed in range(8):
            things = level_things(seed)
            cells = doubtful(things, 7, 6, FOUR)
            told = paint(things, 7, 6, FOUR, GROUND)
            for order in (things[::-1], things[3:] + things[:3], things[1::2] + things[::2]):
                self.assertEqual(doubtful(order, 7, 6, FOUR), cells)
                other = paint(order, 7, 6, FOUR, GROUND)
                for row, column in itertools.product(range(6), range(7)):
                    if (column, row) not in cells:
                        self.assertEqual(other[row][column], told[row][column])
                    differing += other[row][column] != told[row][column]
        self.assertGreater(differing, 0)


def pieces_of(thing, triangles):
    if thing.word() == "plain":
        return [Plain(triangle, thing.colour) for triangle in triangles]
    if thing.word() == "shaded":
        return [Shaded(triangle) for triangle in triangles]
    if thing.word() == "patterned":
        return [Patterned(triangle, thing.pattern) for triangle in triangles]
    return [Glass(triangle, thing.colour, thing.part) for triangle in triangles]


def split(triangle, first, second):
    a, b, c = triangle
    ab = mixed(a, b, first, second)
    return [(a, ab, c), (ab, b, c)]


class Pieces(Case):
    """[0.3] the picture of a thing is that of its pieces, in its place"""

    def test_cut_by_a_wall(self):
        walls = [
            (1, 0, -3, 0), (0, 2, -7, 0), (1, 1, -9, 0), (3, -2, 1, 0), (0, 0, 2, -3), (0, 0, -1, 1), (1, -1, 0, 0),
        ]
        for seed, wall in itertools.product(range(3), walls):
            things = things_of(seed, 4)
            cut_things = []
            for thing in things:
                inside, outside = cut(thing.triangle, wall)
                cut_things += pieces_of(thing, inside + outside)
            self.assertEqual(paint(cut_things, 6, 6, FOUR[1:3]), paint(things, 6, 6, FOUR[1:3]))

    def test_split_by_a_mixed_corner(self):
        for seed, (first, second) in itertools.product(range(4), ((1, 1), (2, 5), (1, 0), (0, 3))):
            things = things_of(seed, 4)
            parts = []
            for thing in things:
                parts += pieces_of(thing, split(thing.triangle, first, second))
            self.assertEqual(paint(parts, 6, 6, [(4, 4), (1, 2)]), paint(things, 6, 6, [(4, 4), (1, 2)]))

    def test_within_the_walls_of_the_eye(self):
        # What lies within the floor's own walls is all that the floor shows.
        for seed in range(4):
            things = things_of(seed, 4)
            parts = []
            for thing in things:
                parts += pieces_of(thing, within(thing.triangle, eyewalls(6, 6, 1, 3)[2:]))
            self.assertEqual(paint(parts, 6, 6, FOUR[1:3], GROUND), paint(things, 6, 6, FOUR[1:3], GROUND))

    def test_no_new_doubt(self):
        for seed in range(3):
            things = things_of(seed, 4)
            parts = []
            for thing in things:
                inside, outside = cut(thing.triangle, (1, 1, -9, 0))
                parts += pieces_of(thing, inside + outside)
            self.assertEqual(doubtful(parts, 6, 6, FOUR), doubtful(things, 6, 6, FOUR))


class HandedIn(Case):
    def test_nothing_is_changed(self):
        for seed in range(3):
            things, spots = things_of(seed), list(FOUR)
            told, kept = all_told_of(copy.deepcopy(things)), list(things)
            paint(things, 4, 4, spots, GROUND)
            doubtful(things, 4, 4, spots)
            colour_seen(things, P, GROUND)
            self.assertEqual([id(thing) for thing in things], [id(thing) for thing in kept])
            self.assertEqual(all_told_of(things), told)
            self.assertEqual(spots, FOUR)

    def test_told_is_new_each_time(self):
        things = level_things(1)
        first, second = paint(things, 4, 4), paint(things, 4, 4)
        before = copy.deepcopy(second)
        self.assertEqual(len({id(row) for row in first + second} | {id(first), id(second)}), 10)
        first[0][0] = None
        first[1].clear()
        first.pop()
        self.assertEqual(second, before)
        self.assertEqual(paint(things, 4, 4), before)

    def test_cells_told_are_new(self):
        things = plain([sheet((1, 1))] * 2, (1, 1))
        first = doubtful(things, 2, 1)
        first.clear()
        self.assertEqual(doubtful(things, 2, 1), [(0, 0), (1, 0)])

    def test_lists_changed_behind_change_nothing(self):
        things, spots = things_of(2), list(FOUR)
        picture, cells = paint(things, 4, 4, spots), doubtful(things, 4, 4, spots)
        before = copy.deepcopy((picture, cells))
        things.clear()
        spots.append(None)
        self.assertEqual((picture, cells), before)

    def test_a_picture_without_spots_told_leaves_the_next_alone(self):
        self.assertEqual(paint([], 1, 1), [[(0, 1)]])
        paint([], 1, 1, FOUR, (5, 1))
        self.assertEqual(paint([], 1, 1), [[(0, 1)]])


class Interface(Case):
    def test_names_and_arguments(self):
        for name, arguments in (
            ("colour_seen", "(things, p, ground)"), ("paint", "(things, width, height, spots=None, ground=None)"),
            ("doubtful", "(things, width, height, spots=None)"),
        ):
            self.assertEqual(str(inspect.signature(getattr(module, name))), arguments)
