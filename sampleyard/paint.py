"""Paint: the colour seen at a point [6.2], pictures of a floor [6.3] and their doubtful cells [6.4]."""

from sampleyard.errors import BadFloor
from sampleyard.fractions import mean_of, minus, plus, product, under
from sampleyard.seen import seen_at
from sampleyard.spots import spot_at
from sampleyard.whole import is_between

MOST_CELLS = 64
MOST_SPOTS = 16


def check_floor(width, height):
    if not is_between(width, 1, MOST_CELLS) or not is_between(height, 1, MOST_CELLS):
        raise BadFloor("a floor has 1 to 64 cells in a row, and 1 to 64 rows")


def check_spots(spots):
    if not isinstance(spots, list) or len(spots) < 1 or len(spots) > MOST_SPOTS:
        raise BadFloor("spots are a list of 1 to 16 tuples")
    if not all([is_spot(spot) for spot in spots]):
        raise BadFloor("a spot is a tuple of two whole numbers from 1 to 7")
    if len(set(spots)) != len(spots):
        raise BadFloor("the spots of a list are all unlike")


def is_spot(thing):
    if not isinstance(thing, tuple) or len(thing) != 2:
        return False
    return is_between(thing[0], 1, 7) and is_between(thing[1], 1, 7)


def spots_or_middle(spots):
    if spots is None:
        return [(4, 4)]
    check_spots(spots)
    return spots


def ground_or_none(ground):
    return (0, 1) if ground is None else ground


def colour_seen(things, p, ground):
    return colour_of(sights_at(things, p), ground)


def sights_at(things, p):
    # A sight is a tuple (thing, depth, values); they stand in the order of the list.
    sights = []
    for thing in things:
        seen = seen_at(thing.triangle, p)
        if seen is not None:
            sights.append((thing, seen[0], seen[1]))
    return sights


def colour_of(sights, ground):
    nearest = nearest_of(sights)
    colour = ground
    if nearest is not None:
        colour = nearest[0].colour_at(nearest[2])
    for sight in layers_over(nearest, sights):
        colour = laid_over(sight[0], colour)
    return colour


def nearest_of(sights):
    nearest = None
    for sight in sights:
        if sight[0].is_glass():
            continue
        # Only one that is nearer takes the place, so of alike ones the first in the list stays.
        if nearest is None or under(sight[1], nearest[1]):
            nearest = sight
    return nearest


def layers_over(nearest, sights):
    layers = []
    for sight in sights:
        if sight[0].is_glass() and (nearest is None or under(sight[1], nearest[1])):
            # Right behind those of greater depth, so ahead of alike ones, which stand earlier in the list.
            place = len([layer for layer in layers if under(sight[1], layer[1])])
            layers.insert(place, sight)
    return layers


def laid_over(glass, colour):
    left = minus((1, 1), glass.part)
    return plus(product(glass.part, glass.colour), product(left, colour))


def paint(things, width, height, spots=None, ground=None):
    check_floor(width, height)
    places = spots_or_middle(spots)
    beneath = ground_or_none(ground)
    return [painted_row(things, width, row, places, beneath) for row in range(height)]


def painted_row(things, width, row, spots, ground):
    return [cell_colour(sights_in(things, column, row, spots), ground) for column in range(width)]


def sights_in(things, column, row, spots):
    return [sights_at(things, spot_at(column, row, spot)) for spot in spots]


def cell_colour(sights_by_spot, ground):
    return mean_of([colour_of(sights, ground) for sights in sights_by_spot])


def doubtful(things, width, height, spots=None):
    check_floor(width, height)
    places = spots_or_middle(spots)
    cells = []
    for row in range(height):
        for column in range(width):
            if any([has_alike_depths(sights) for sights in sights_in(things, column, row, places)]):
                cells.append((column, row))
    return cells


def has_alike_depths(sights):
    depths = [sight[1] for sight in sights]
    return len(set(depths)) != len(depths)
