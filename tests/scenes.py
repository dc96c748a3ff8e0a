"""What the tests of pictures share: things to be painted, and what is seen of them, reckoned in another way."""

import unittest
from fractions import Fraction

from sampleyard.errors import YardError
from sampleyard.things import Glass, Patterned, Plain, Shaded

# Small beside every place of the small numbers here.
HAIR = Fraction(1, 10 ** 9)
PATTERN = [[(1, 1), (0, 1)], [(1, 2), (-3, 1)]]
ALL_SPOTS = [(dx, dy) for dy in range(1, 8) for dx in range(1, 8)]
FOUR = [(2, 2), (6, 2), (2, 6), (6, 6)]
SIXTEEN = ALL_SPOTS[::3][:16]
NO_FLOORS = [0, 65, -1, 10 ** 9, True, False, None, "8", 8.0, (8,), [8]]
NO_SPOTS = [
    [], ALL_SPOTS[:17], ALL_SPOTS, [(4, 4), (4, 4)], SIXTEEN[:15] + SIXTEEN[3:4], [(1, 2), (2, 1), (1, 2)],
    ((4, 4),), tuple(FOUR), (4, 4), {(4, 4): True}, "44", 4, True, False, [[4, 4]], [4, 4], [None], ["44"],
    [(4, 4), [2, 2]], [()], [(4,)], [(4, 4, 4)], [(4, 4), (2,)], [(0, 4)], [(4, 0)], [(8, 4)], [(4, 8)], [(-1, 4)],
    [(4, -1)], [(4, 4), (2, 0)], [(2, 8), (4, 4)], [(True, 4)], [(4, True)], [(1, True)], [(False, 1)], [(4, False)],
    [(4.0, 4)], [(4, 4.0)], [("4", 4)], [(4, None)], [((4, 4), 4)],
]


class Case(unittest.TestCase):
    def assertRefused(self, error, call, *given, **named):
        with self.assertRaises(YardError, msg=repr((given, named))) as caught:
            call(*given, **named)
        self.assertIs(type(caught.exception), error, (given, named))
        return caught.exception

    def assertPicture(self, picture, width, height):
        self.assertIs(type(picture), list)
        self.assertEqual([type(row) for row in picture], [list] * height)
        self.assertEqual([len(row) for row in picture], [width] * height)
        for fraction in sum(picture, []):
            self.assertFraction(fraction)

    def assertFraction(self, fraction):
        self.assertEqual([type(fraction)] + [type(number) for number in fraction], [tuple, int, int])
        exact = Fraction(fraction[0], fraction[1])
        self.assertEqual(fraction, (exact.numerator, exact.denominator))


def sheet(depth, values=((), (), ())):
    """a triangle over every floor, all of it at a depth (a tuple, w and h)"""
    w, h = depth
    places = ((-100, -100), (300, -100), (-100, 300))
    return tuple([(x * w, y * w, w, h, some) for (x, y), some in zip(places, values)])


def over(left, top, right, bottom, depth=(1, 1)):
    """the two triangles that fill a square of cells, at a depth"""
    w, h = depth
    a, b, c, d = [(x * w, y * w, w, h, ()) for x, y in ((left, top), (right, top), (right, bottom), (left, bottom))]
    return [(a, b, c), (a, c, d)]


def plain(triangles, colour):
    return [Plain(triangle, colour) for triangle in triangles]


def stream(seed):
    state = seed * 7919 + 17
    while True:
        state = (state * 6364136223846793005 + 1442695040888963407) % 2 ** 64
        yield state >> 33


def things_of(seed, count=6, size=8):
    """things of all kinds, by a seed, about a floor of so many cells either way"""
    numbers = stream(seed)

    def one(least, most):
        return least + next(numbers) % (most - least + 1)

    found = []
    for number in range(count):
        corners = []
        for place in range(3):
            w = one(1, 3)
            values = (one(-6, 6), one(-6, 6), one(-6, 6))
            corners.append((one(-4, size + 6) * w, one(-4, size + 6) * w, w, one(1, 2), values))
        kind = one(0, 4)
        colour = (one(-9, 9), 1) if one(0, 1) else (2 * one(-9, 9) + 1, 2)
        if kind == 0:
            found.append(Shaded(tuple(corners)))
        elif kind == 1:
            found.append(Patterned(tuple(corners), PATTERN))
        elif kind == 2:
            found.append(Plain(tuple(corners), colour))
        else:
            found.append(Glass(tuple(corners), colour, [(1, 2), (1, 3), (0, 1), (3, 4), (1, 1)][one(0, 4)]))
    return found


def level_things(seed, count=6):
    """sheets and squares of all kinds at few depths, so that many are alike"""
    numbers = stream(seed)
    found = []
    for number in range(count):
        depth = [(1, 1), (2, 1), (1, 2), (2, 2), (3, 2)][next(numbers) % 5]
        left, top = next(numbers) % 5, next(numbers) % 5
        triangles = [sheet(depth)] if next(numbers) % 4 == 0 else over(left, top, left + 4, top + 3, depth)
        colour = (next(numbers) % 9 - 4, 1)
        if next(numbers) % 2:
            found += plain(triangles, colour)
        else:
            found += [Glass(triangle, colour, (1, 3)) for triangle in triangles]
    return found


def told_of(thing):
    """all that a thing holds, to be compared"""
    return [type(thing), {name: value for name, value in vars(thing).items()}]


def all_told_of(things):
    return [told_of(thing) for thing in things]


def turn(a, b, place):
    return (b[0] - a[0]) * (place[1] - a[1]) - (b[1] - a[1]) * (place[0] - a[0])


def seen_by_hand(triangle, point):
    """depth and values, or None: has it the place moved by a hair; h / w and the values / w are even over the floor"""
    px, py, s = point
    a, b, c = [(Fraction(corner[0], corner[2]), Fraction(corner[1], corner[2])) for corner in triangle]
    place = (Fraction(px, s), Fraction(py, s))
    moved = (place[0] + HAIR, place[1] + HAIR * HAIR)
    sides = [turn(b, c, moved), turn(c, a, moved), turn(a, b, moved)]
    if not (min(sides) > 0 or max(sides) < 0):
        return None
    shares = [turn(b, c, place), turn(c, a, place), turn(a, b, place)]
    total = sum(shares)

    def even(numbers):
        return sum([share * Fraction(number, corner[2]) for share, number, corner in zip(shares, numbers, triangle)])

    by_depth = even([corner[3] for corner in triangle]) / total
    values = [even([corner[4][k] for corner in triangle]) / total / by_depth for k in range(len(triangle[0][4]))]
    return (1 / by_depth, values)


def colour_by_hand(things, point, ground):
    """what is seen at a point, as a Fraction"""
    return colour_of_seen([(thing, seen_by_hand(thing.triangle, point)) for thing in things], ground)


def colour_of_seen(pairs, ground):
    seen = [(sight[0], number, thing, sight[1]) for number, (thing, sight) in enumerate(pairs) if sight]
    solid = sorted([entry[:2] for entry in seen if entry[2].word() != "glass"])
    colour = ground
    if solid:
        depth, number, thing, values = [entry for entry in seen if entry[:2] == solid[0]][0]
        if thing.word() == "plain":
            colour = Fraction(*thing.colour)
        elif thing.word() == "shaded":
            colour = values[0]
        else:
            row = thing.pattern[(values[1].numerator // values[1].denominator) % len(thing.pattern)]
            colour = Fraction(*row[(values[0].numerator // values[0].denominator) % len(row)])
    layers = [entry for entry in seen if entry[2].word() == "glass" and (not solid or entry[0] < solid[0][0])]
    for depth, number, glass, values in sorted(layers, key=lambda entry: (-entry[0], -entry[1])):
        part = Fraction(*glass.part)
        colour = part * Fraction(*glass.colour) + (1 - part) * colour
    return colour


def picture_by_hand(things, width, height, spots, ground):
    picture = []
    for row in range(height):
        picture.append([])
        for column in range(width):
            points = [(8 * column + dx, 8 * row + dy, 8) for dx, dy in spots]
            colours = [colour_by_hand(things, point, Fraction(*ground)) for point in points]
            mean = Fraction(sum(colours), len(spots))
            picture[-1].append((mean.numerator, mean.denominator))
    return picture
