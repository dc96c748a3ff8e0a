"""[7.1] the cells of tiles, [7.2] near depths and pictures painted by tiles, [7.3] what is let go; [0.2], [0.3]."""

import copy
import inspect
import itertools
from fractions import Fraction

from scenes import (
    FOUR, NO_FLOORS, NO_SPOTS, SIXTEEN, Case, all_told_of, level_things, over, plain, seen_by_hand, sheet, things_of,
)

from sampleyard import tiles as module
from sampleyard.errors import BadFloor
from sampleyard.paint import paint
from sampleyard.things import Glass, Plain, Shaded
from sampleyard.tiles import near_depth, paint_tiles, tile_cells

GROUND = (7, 3)
MIDDLE = [(4, 4)]


def count_of(width, height, wide):
    return -(-width // wide) * -(-height // wide)


def tile_of(column, row, width, wide):
    """the number of the tile in which a cell lies"""
    return row // wide * -(-width // wide) + column // wide


def cells_by_hand(width, height, wide, tile):
    cells = itertools.product(range(height), range(width))
    return [(column, row) for row, column in cells if tile_of(column, row, width, wide) == tile]


class TileCells(Case):
    def test_even(self):
        self.assertEqual(tile_cells(4, 4, 2, 0), [(0, 0), (1, 0), (0, 1), (1, 1)])
        self.assertEqual(tile_cells(4, 4, 2, 1), [(2, 0), (3, 0), (2, 1), (3, 1)])
        self.assertEqual(tile_cells(4, 4, 2, 2), [(0, 2), (1, 2), (0, 3), (1, 3)])
        self.assertEqual(tile_cells(4, 4, 2, 3), [(2, 2), (3, 2), (2, 3), (3, 3)])

    def test_fewer_at_the_right_and_lower_end(self):
        self.assertEqual(tile_cells(5, 3, 2, 2), [(4, 0), (4, 1)])
        self.assertEqual(tile_cells(5, 3, 2, 3), [(0, 2), (1, 2)])
        self.assertEqual(tile_cells(5, 3, 2, 4), [(2, 2), (3, 2)])
        self.assertEqual(tile_cells(5, 3, 2, 5), [(4, 2)])
        self.assertEqual(tile_cells(7, 4, 3, 5), [(6, 3)])

    def test_wide_greater_than_the_floor(self):
        for wide in (3, 4, 63, 64):
            self.assertEqual(tile_cells(3, 2, wide, 0), [(0, 0), (1, 0), (2, 0), (0, 1), (1, 1), (2, 1)])
        self.assertEqual(tile_cells(5, 1, 4, 1), [(4, 0)])
        self.assertEqual(tile_cells(1, 5, 4, 1), [(0, 4)])

    def test_of_one_cell(self):
        for number in range(12):
            self.assertEqual(tile_cells(4, 3, 1, number), [(number % 4, number // 4)])

    def test_all_floors(self):
        for width, height, wide in itertools.product((1, 2, 3, 5, 8, 9), (1, 2, 4, 7, 9), (1, 2, 3, 4, 5, 8, 64)):
            for tile in range(count_of(width, height, wide)):
                told = tile_cells(width, height, wide, tile)
                self.assertEqual(told, cells_by_hand(width, height, wide, tile))
                self.assertEqual([type(told)] + [type(cell) for cell in told], [list] + [tuple] * len(told))

    def test_greatest_floor(self):
        for wide, tile in ((64, 0), (63, 3), (33, 1), (32, 2), (1, 4095), (10, 48)):
            self.assertEqual(tile_cells(64, 64, wide, tile), cells_by_hand(64, 64, wide, tile))


class NearDepth(Case):
    def test_least_of_the_corners(self):
        for depths, expected in (
            ([(1, 1), (2, 1), (3, 1)], (1, 1)), ([(3, 1), (1, 2), (2, 1)], (1, 2)), ([(5, 2), (4, 1), (7, 3)], (7, 3)),
            ([(6, 4), (9, 6), (3, 2)], (3, 2)), ([(10 ** 6, 1), (10 ** 6, 10 ** 6), (1, 1)], (1, 1)),
            ([(1, 3), (1, 4), (1, 2)], (1, 4)), ([(4, 6), (3, 4), (5, 7)], (2, 3)),
        ):
            for order in itertools.permutations(depths):
                triangle = tuple([(number, -number, w, h, ()) for number, (w, h) in enumerate(order)])
                self.assertEqual(near_depth(triangle), expected)
                self.assertFraction(near_depth(triangle))

    def test_of_many_figures(self):
        big = 10 ** 40
        triangle = ((0, 0, big + 1, big, ()), (1, 0, big, big, ()), (0, 1, big + 2, big, ()))
        self.assertEqual(near_depth(triangle), (1, 1))


def told_by_hand(things, width, height, wide, order, spots):
    """what is let go, in the words of 7.2"""
    found = []
    for tile in order:
        points = [(8 * column + dx, 8 * row + dy, 8) for column, row in cells_by_hand(width, height, wide, tile)
                  for dx, dy in spots]
        ahead = []
        for number, thing in enumerate(things):
            near = min([Fraction(corner[2], corner[3]) for corner in thing.triangle])
            depths = [[seen[0] for seen in [seen_by_hand(other.triangle, point) for other in ahead] if seen]
                      for point in points]
            if all(depths) and near >= max([min(some) for some in depths]):
                far = max([min(some) for some in depths])
                found.append((tile, number, (near.numerator, near.denominator), (far.numerator, far.denominator)))
            elif thing.word() != "glass":
                ahead.append(thing)
    return found


class LetGo(Case):
    def told(self, things, width=4, height=4, wide=4, order=None, spots=None):
        picture, let_go = paint_tiles(things, width, height, wide, order, spots, GROUND)
        self.assertEqual(picture, paint(things, width, height, spots, GROUND))
        self.assertIs(type(let_go), list)
        for entry in let_go:
            self.assertEqual([type(entry), len(entry), type(entry[0]), type(entry[1])], [tuple, 4, int, int])
            self.assertFraction(entry[2])
            self.assertFraction(entry[3])
        return let_go

    def test_no_things(self):
        self.assertEqual(self.told([]), [])
        self.assertEqual(self.told([], wide=1), [])

    def test_one_thing(self):
        self.assertEqual(self.told([Plain(sheet((1, 1)), (1, 1))], wide=2), [])

    def test_behind_a_sheet(self):
        things = plain([sheet((1, 1)), sheet((2, 1))], (1, 1))
        self.assertEqual(self.told(things), [(0, 1, (2, 1), (1, 1))])
        self.assertEqual(self.told(things, wide=2), [(tile, 1, (2, 1), (1, 1)) for tile in range(4)])

    def test_ahead_of_it_none(self):
        things = plain([sheet((2, 1)), sheet((1, 1))], (1, 1))
        self.assertEqual(self.told(things), [])

    def test_near_depth_equal_and_just_less(self):
        # At the very same depth it is let go: of alike ones the first is seen.
        wall = Plain(sheet((3, 2)), (1, 1))
        self.assertEqual(self.told([wall, Plain(sheet((6, 4)), (2, 1))]), [(0, 1, (3, 2), (3, 2))])
        self.assertEqual(self.told([wall, Plain(sheet((1499999, 10 ** 6)), (2, 1))]), [])
        self.assertEqual(self.told([wall, Plain(sheet((1500001, 10 ** 6)), (2, 1))]),
                         [(0, 1, (1500001, 10 ** 6), (3, 2))])

    def test_by_the_nearest_corner(self):
        # All of it that the floor shows lies behind the wall, but one corner, far off, is nearer.
        wall = Plain(sheet((2, 1)), (1, 1))
        for w, expected in ((1, []), (2, [(0, 1, (2, 1), (2, 1))]), (3, [(0, 1, (3, 1), (2, 1))])):
            slanted = ((-900 * w, -900 * w, w, 1, ()), (9000, -900, 9, 1, ()), (-900, 9000, 9, 1, ()))
            self.assertEqual(self.told([wall, Plain(slanted, (2, 1))]), expected)

    def test_greatest_of_the_least_depths(self):
        # The one half at 1, the other at 3: a thing at 2 isn't let go, one at 3 is; in tiles that have one half alone
        # each by that half.
        halves = plain(over(0, 0, 2, 4) + over(2, 0, 4, 4, (3, 1)), (1, 1))
        self.assertEqual(self.told(halves + [Plain(sheet((2, 1)), (2, 1))]), [])
        self.assertEqual(self.told(halves + [Plain(sheet((3, 1)), (2, 1))]), [(0, 4, (3, 1), (3, 1))])
        # There the far half, which those tiles don't show, is let go, too.
        self.assertEqual(self.told(halves + [Plain(sheet((2, 1)), (2, 1))], wide=2), [
            (0, 2, (3, 1), (1, 1)), (0, 3, (3, 1), (1, 1)), (0, 4, (2, 1), (1, 1)),
            (2, 2, (3, 1), (1, 1)), (2, 3, (3, 1), (1, 1)), (2, 4, (2, 1), (1, 1)),
        ])

    def test_the_least_at_each_spot(self):
        # A far sheet, and near ones over it: the least of both counts, in whatever order they stand.
        for order in (1, -1):
            solid = [Plain(sheet((9, 1)), (1, 1)), Plain(sheet((2, 1)), (2, 1))][::order]
            told = self.told(solid + [Plain(sheet((5, 1)), (3, 1))])
            self.assertEqual(told[-1], (0, 2, (5, 1), (2, 1)))
        far = plain([sheet((9, 1))] + over(0, 0, 3, 4, (2, 1)), (1, 1))
        self.assertEqual(self.told(far + [Plain(sheet((5, 1)), (3, 1))]), [])
        self.assertEqual(self.told(far + [Plain(sheet((9, 1)), (3, 1))]), [(0, 3, (9, 1), (9, 1))])

    def test_a_later_and_farther_one_takes_nothing_back(self):
        # The sheet at 9 stays, as the right half's ground is seen there; it hides no more of the left half than was.
        things = plain(over(0, 0, 2, 4, (2, 1)) + [sheet((9, 1))] + over(2, 0, 4, 4, (3, 1)), (1, 1))
        self.assertEqual(self.told(things + [Plain(sheet((5, 1)), (3, 1))]), [(0, 5, (5, 1), (3, 1))])
        self.assertEqual(self.told(things + [Plain(sheet((5, 2)), (3, 1))]), [])

    def test_where_the_ground_is_seen_nothing_is_let_go(self):
        # All cells but the last one.
        things = plain(over(0, 0, 4, 3) + over(0, 3, 3, 4) + [sheet((5, 1))], (1, 1))
        self.assertEqual(self.told(things), [])
        last = [entry for entry in self.told(things, wide=2) if entry[1] == 4]
        self.assertEqual(last, [(tile, 4, (5, 1), (1, 1)) for tile in range(3)])
        self.assertEqual([entry for entry in self.told(things, wide=2) if entry[0] == 3], [])

    def test_each_spot_of_each_cell(self):
        # All four spots of the cell are hidden but one; of the others alone it is let go.
        hidden = [tuple([(x, y, 2, 2, v) for x, y, w, h, v in triangle]) for triangle in over(0, 0, 1, 2)]
        hidden += [tuple([(x, y, 2, 2, v) for x, y, w, h, v in triangle]) for triangle in over(1, 0, 2, 1)]
        things = plain(hidden + [sheet((5, 1))], (1, 1))
        self.assertEqual(self.told(things, 1, 1, 1, None, FOUR), [])
        self.assertEqual(self.told(things, 1, 1, 1, None, FOUR[:3])[-1], (0, 4, (5, 1), (1, 1)))

    def test_things_ahead_in_the_list_alone(self):
        things = plain([sheet((5, 1)), sheet((1, 1)), sheet((3, 1))], (1, 1))
        self.assertEqual(self.told(things), [(0, 2, (3, 1), (1, 1))])

    def test_glass_ahead_lets_nothing_go(self):
        for part in ((1, 3), (0, 1), (1, 1)):
            glass = Glass(sheet((1, 1)), (4, 1), part)
            self.assertEqual(self.told([glass, Plain(sheet((2, 1)), (1, 1))]), [])
            self.assertEqual(self.told([glass, glass, Glass(sheet((2, 1)), (1, 1), part)]), [])
            self.assertEqual(self.told([glass, Plain(sheet((3, 1)), (1, 1)), Plain(sheet((2, 1)), (1, 1))]), [])

    def test_glass_is_let_go_too(self):
        wall = Plain(sheet((2, 1)), (1, 1))
        for depth, expected in (((1, 1), []), ((2, 1), [(0, 1, (2, 1), (2, 1))]), ((3, 1), [(0, 1, (3, 1), (2, 1))])):
            self.assertEqual(self.told([wall, Glass(sheet(depth), (4, 1), (1, 2))]), expected)

    def test_a_thing_ahead_that_was_let_go_itself(self):
        # The second is let go behind the first; so the third is measured by the first alone.
        things = plain([sheet((3, 1)), sheet((4, 1)), sheet((7, 2))], (1, 1))
        self.assertEqual(self.told(things), [(0, 1, (4, 1), (3, 1)), (0, 2, (7, 2), (3, 1))])

    def test_what_was_let_go_in_one_tile_plays_its_part_in_another(self):
        # In the first tile the sheet at 2 is let go behind the square, in the second it hides the last one.
        things = plain(over(0, 0, 2, 2) + [sheet((2, 1)), sheet((3, 1))], (1, 1))
        self.assertEqual(self.told(things, 4, 2, 2), [
            (0, 2, (2, 1), (1, 1)), (0, 3, (3, 1), (1, 1)), (1, 3, (3, 1), (2, 1)),
        ])

    def test_things_off_the_tile_are_let_go_by_their_depth_alone(self):
        # A thing that the tile doesn't show at all is let go like any other.
        things = [Plain(sheet((1, 1)), (1, 1))] + plain(over(40, 40, 41, 41, (2, 1)), (2, 1))
        self.assertEqual(self.told(things), [(0, 1, (2, 1), (1, 1)), (0, 2, (2, 1), (1, 1))])

    def test_in_the_order_in_which_it_came_about(self):
        things = plain([sheet((1, 1)), sheet((3, 1)), sheet((2, 1))], (1, 1))
        told = self.told(things, 4, 4, 2, [2, 0, 3, 1])
        self.assertEqual([entry[:2] for entry in told],
                         [(2, 1), (2, 2), (0, 1), (0, 2), (3, 1), (3, 2), (1, 1), (1, 2)])
        rising = self.told(things, 4, 4, 2)
        self.assertEqual([entry[:2] for entry in rising], [(tile, number) for tile in range(4) for number in (1, 2)])
        self.assertEqual(self.told(things, 4, 4, 2, [0, 1, 2, 3]), rising)
        self.assertEqual(sorted(told), rising)

    def test_by_hand(self):
        some = 0
        for seed in range(6):
            wall = [Shaded(sheet((5, 2), ((1,), (2,), (5,))))]
            halves = plain(over(0, 0, 3, 9, (3, 2)) + [sheet((7, 1))] + over(3, 0, 9, 9, (2, 1)), (5, 1))
            for things in (
                level_things(seed), wall[:seed % 2] + things_of(seed), level_things(seed)[:3] + wall * 2,
                halves + level_things(seed, 4) + wall,
            ):
                for wide, spots in ((1, MIDDLE), (2, FOUR), (3, MIDDLE), (8, SIXTEEN[:3])):
                    order = list(range(count_of(6, 5, wide)))
                    order = order[seed:] + order[:seed]
                    told = self.told(things, 6, 5, wide, order, spots)
                    self.assertEqual(told, told_by_hand(things, 6, 5, wide, order, spots))
                    some += len(told)
        self.assertGreater(some, 200)


def orders_of(count):
    rising = list(range(count))
    return [rising, rising[::-1], rising[1::2] + rising[::2], rising[count // 3:] + rising[:count // 3]]


class OnePicture(Case):
    """[0.3] tiles of any size, in any order, make the one picture"""

    def test_of_every_wide(self):
        for seed in range(2):
            things = [Plain(sheet((5, 2)), (1, 2))] + things_of(seed, 4) + level_things(seed, 3)
            told = paint(things, 7, 5, [(4, 4)], GROUND)
            for wide in range(1, 65):
                picture = paint_tiles(things, 7, 5, wide, ground=GROUND)[0]
                self.assertPicture(picture, 7, 5)
                self.assertEqual(picture, told)

    def test_in_every_order(self):
        for seed in range(4):
            things = level_things(seed)
            told = paint(things, 6, 4, FOUR)
            for wide in (1, 2, 3, 4, 5, 6):
                for order in orders_of(count_of(6, 4, wide)):
                    self.assertEqual(paint_tiles(things, 6, 4, wide, order, FOUR)[0], told)

    def test_all_orders_of_four_tiles(self):
        things = level_things(5)
        told = paint(things, 4, 4)
        for order in itertools.permutations(range(4)):
            self.assertEqual(paint_tiles(things, 4, 4, 2, list(order))[0], told)

    def test_spots_and_ground_left_out_and_told(self):
        things = things_of(7)
        for spots, ground in itertools.product((None, MIDDLE, FOUR, SIXTEEN), (None, (0, 1), GROUND)):
            told = paint(things, 3, 4, spots, ground)
            self.assertEqual(paint_tiles(things, 3, 4, 2, None, spots, ground)[0], told)
            self.assertEqual(paint_tiles(things, 3, 4, 2, spots=spots, ground=ground)[0], told)

    def test_greatest_floor(self):
        things = plain([((0, 0, 1, 1, ()), (64, 0, 1, 1, ()), (0, 64, 1, 1, ())), sheet((3, 1)), sheet((2, 1))], (1, 2))
        told = paint(things, 64, 64)
        for wide in (13, 64):
            self.assertEqual(paint_tiles(things, 64, 64, wide)[0], told)
        for width, height in ((64, 1), (1, 64), (1, 1)):
            self.assertEqual(paint_tiles(things, width, height, 5)[0], paint(things, width, height))


class Refused(Case):
    def test_wides(self):
        for wide in NO_FLOORS:
            self.assertRefused(BadFloor, paint_tiles, [], 8, 8, wide)
            self.assertRefused(BadFloor, paint_tiles, things_of(1), 8, 8, wide, [0])
            self.assertRefused(BadFloor, paint_tiles, [], 1, 1, wide, None, FOUR, GROUND)

    def test_floors(self):
        for wrong, right in itertools.product(NO_FLOORS, (1, 64)):
            self.assertRefused(BadFloor, paint_tiles, [], wrong, right, 8)
            self.assertRefused(BadFloor, paint_tiles, [], right, wrong, 8)
            self.assertRefused(BadFloor, paint_tiles, [], right, wrong, 8, [0])

    def test_spots(self):
        for spots in NO_SPOTS:
            self.assertRefused(BadFloor, paint_tiles, [], 2, 2, 2, None, spots)
            self.assertRefused(BadFloor, paint_tiles, things_of(1), 2, 2, 1, spots=spots, ground=GROUND)

    def test_orders(self):
        for order in (
            [], [0], [0, 1, 2], [1, 2, 3], [0, 1, 3], [0, 1, 2, 2], [0, 0, 1, 2], [0, 1, 2, 3, 3], [0, 1, 2, 3, 4],
            [1, 2, 3, 4], [0, 1, 2, 4], [-1, 0, 1, 2], [0, 1, 2, -1], [False, 1, 2, 3], [0, True, 2, 3], [0, 1, 2, 3.0],
            [0, 1, 2, "3"], [0, 1, 2, None], [0, 1, 2, (3,)], [0, 1, 2, [3]], [None], [[0, 1, 2, 3]], (0, 1, 2, 3),
            range(4), "0123", {0: 1, 1: 1, 2: 1, 3: 1}, 0, 4, True, False,
        ):
            self.assertRefused(BadFloor, paint_tiles, [], 4, 4, 2, order)
            self.assertRefused(BadFloor, paint_tiles, things_of(2), 4, 4, 2, order, FOUR)

    def test_orders_of_one_tile(self):
        for order in ([], [1], [0, 0], [True], [False], [None], 0, (0,)):
            self.assertRefused(BadFloor, paint_tiles, [], 4, 4, 4, order)
        self.assertEqual(paint_tiles([], 1, 1, 4, [0]), ([[(0, 1)]], []))

    def test_orders_of_floors_that_are_not_even(self):
        for width, height, wide, count in ((5, 3, 2, 6), (3, 5, 2, 6), (4, 4, 3, 4), (9, 1, 4, 3), (1, 9, 4, 3)):
            right = list(range(count))
            self.assertEqual(len(paint_tiles([], width, height, wide, right)[0]), height)
            self.assertRefused(BadFloor, paint_tiles, [], width, height, wide, right[:-1])
            self.assertRefused(BadFloor, paint_tiles, [], width, height, wide, right + [count])

    def test_every_right_wide(self):
        for wide in range(1, 65):
            self.assertEqual(paint_tiles([], 2, 1, wide), ([[(0, 1), (0, 1)]], []))


class HandedIn(Case):
    def test_nothing_is_changed(self):
        things, order, spots = level_things(3), [3, 1, 0, 2], list(FOUR)
        told, kept = all_told_of(copy.deepcopy(things)), list(things)
        paint_tiles(things, 4, 4, 2, order, spots, GROUND)
        self.assertEqual([id(thing) for thing in things], [id(thing) for thing in kept])
        self.assertEqual(all_told_of(things), told)
        self.assertEqual((order, spots), ([3, 1, 0, 2], FOUR))

    def test_told_is_new_each_time(self):
        things = plain([sheet((1, 1)), sheet((2, 1))], (1, 1))
        first, second = paint_tiles(things, 4, 4, 2), paint_tiles(things, 4, 4, 2)
        self.assertEqual([type(first), len(first)], [tuple, 2])
        before = copy.deepcopy(second)
        lists = first[0] + second[0] + list(first) + list(second)
        self.assertEqual(len({id(each) for each in lists}), 12)
        first[0][0].clear()
        first[0].pop()
        first[1].clear()
        self.assertEqual(second, before)
        self.assertEqual(paint_tiles(things, 4, 4, 2), before)

    def test_cells_told_are_new(self):
        tile_cells(4, 4, 2, 1).clear()
        self.assertEqual(tile_cells(4, 4, 2, 1), [(2, 0), (3, 0), (2, 1), (3, 1)])

    def test_lists_changed_behind_change_nothing(self):
        things, order, spots = level_things(3), [3, 1, 0, 2], list(FOUR)
        told = paint_tiles(things, 4, 4, 2, order, spots)
        before = copy.deepcopy(told)
        things.clear()
        order.clear()
        spots.clear()
        self.assertEqual(told, before)


class Interface(Case):
    def test_names_and_arguments(self):
        for name, arguments in (
            ("tile_cells", "(width, height, wide, tile)"), ("near_depth", "(triangle)"),
            ("paint_tiles", "(things, width, height, wide, order=None, spots=None, ground=None)"),
        ):
            self.assertEqual(str(inspect.signature(getattr(module, name))), arguments)
