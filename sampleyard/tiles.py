"""Tiles: the cells of one [7.1], and pictures painted tile by tile with far things let go [7.2, 7.3]."""

from sampleyard.errors import BadFloor
from sampleyard.fractions import greatest_of, least_of, ratio, under
from sampleyard.paint import cell_colour, check_floor, ground_or_none, spots_or_middle
from sampleyard.seen import seen_at
from sampleyard.spots import spot_at
from sampleyard.whole import is_between, is_whole

MOST_WIDE = 64


def tiles_along(length, wide):
    # What is left over at the end makes one more, with fewer cells.
    return (length + wide - 1) // wide


def tile_cells(width, height, wide, tile):
    across = tiles_along(width, wide)
    left = tile % across * wide
    top = tile // across * wide
    cells = []
    for row in range(top, min(top + wide, height)):
        for column in range(left, min(left + wide, width)):
            cells.append((column, row))
    return cells


def near_depth(triangle):
    return least_of([ratio(corner[2], corner[3]) for corner in triangle])


def check_wide(wide):
    if not is_between(wide, 1, MOST_WIDE):
        raise BadFloor("a tile is 1 to 64 cells wide")


def order_or_rising(order, count):
    if order is None:
        return list(range(count))
    if not isinstance(order, list) or not all([is_whole(tile) for tile in order]):
        raise BadFloor("an order is a list of whole numbers")
    if sorted(order) != list(range(count)):
        raise BadFloor("an order has the number of each tile once")
    return order


def paint_tiles(things, width, height, wide, order=None, spots=None, ground=None):
    check_floor(width, height)
    check_wide(wide)
    tiles = order_or_rising(order, tiles_along(width, wide) * tiles_along(height, wide))
    places = spots_or_middle(spots)
    beneath = ground_or_none(ground)
    picture = [[beneath] * width for row in range(height)]
    let_go = []
    for tile in tiles:
        cells = tile_cells(width, height, wide, tile)
        looked = looked_at(things, points_in(cells, places))
        paint_cells(picture, cells, looked[0], beneath)
        let_go.extend([(tile, gone[0], gone[1], gone[2]) for gone in looked[1]])
    return (picture, let_go)


def points_in(cells, spots):
    points = []
    for column, row in cells:
        points.extend([spot_at(column, row, spot) for spot in spots])
    return points


def looked_at(things, points):
    sights_by_point = [[] for point in points]
    least_depths = [None for point in points]
    let_go = []
    for number, thing in enumerate(things):
        near = near_depth(thing.triangle)
        far = far_depth(least_depths)
        if far is not None and not under(near, far):
            let_go.append((number, near, far))
        else:
            look_at(thing, points, sights_by_point, least_depths)
    return (sights_by_point, let_go)


def far_depth(least_depths):
    # As long as the ground is seen at one of the points nothing is far enough.
    if None in least_depths:
        return None
    return greatest_of(least_depths)


def look_at(thing, points, sights_by_point, least_depths):
    for place, point in enumerate(points):
        seen = seen_at(thing.triangle, point)
        if seen is None:
            continue
        sights_by_point[place].append((thing, seen[0], seen[1]))
        # What is seen through hides nothing.
        if not thing.is_glass():
            least_depths[place] = lesser(least_depths[place], seen[0])


def lesser(least, depth):
    return depth if least is None else least_of([least, depth])


def paint_cells(picture, cells, sights_by_point, ground):
    count = len(sights_by_point) // len(cells)
    for place, cell in enumerate(cells):
        sights_by_spot = sights_by_point[place * count:(place + 1) * count]
        picture[cell[1]][cell[0]] = cell_colour(sights_by_spot, ground)
