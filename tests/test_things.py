"""[6.1] the four kinds of things, what is seen of each and what each is refused with; [0.2] of them."""

import copy
import inspect
import itertools
import unittest
from fractions import Fraction

from sampleyard import things as module
from sampleyard.corners import mixed
from sampleyard.errors import BadPattern, BadThing, BadTriangle, YardError
from sampleyard.patterns import told_at
from sampleyard.seen import seen_at
from sampleyard.things import Glass, Patterned, Plain, Shaded, Thing

MOST = 10 ** 6
KINDS = (Plain, Shaded, Patterned, Glass)
PATTERN = [[(1, 1), (0, 1)], [(1, 2), (-3, 1)]]
COLOURS = [(0, 1), (1, 1), (-7, 1), (5, 6), (-3, 2), (10 ** 30, 7), (-1, 10 ** 30)]
PARTS = [(0, 1), (1, 1), (1, 2), (1, 3), (99, 100), (1, 10 ** 30), (10 ** 30 - 1, 10 ** 30)]
NO_FRACTIONS = (
    None, 0, 1, True, False, "12", "1/2", 0.5, [1, 2], [0, 1], {}, (), (1,), (1, 2, 3), ((1, 2),), (2, 4), (0, 2),
    (5, 5), (-6, 4), (10 ** 30, 10 ** 20), (1, 0), (0, 0), (1, -2), (-1, -2), (0, -1), (True, 1), (False, 1), (1, True),
    (True, True), (1.0, 2), (1, 2.0), ("1", "2"), (None, 1), (1, None),
)
BEYOND = [(-1, 1), (-1, 2), (-1, 10 ** 30), (2, 1), (3, 2), (101, 100), (10 ** 30 + 1, 10 ** 30)]
NO_PATTERNS = (
    None, 1, True, "1,0", [], [[]], (), tuple(PATTERN), [tuple(row) for row in PATTERN], [PATTERN[0]] * 3,
    [PATTERN[0]] * 32, [[(1, 2)] * 3], [[(1, 2)] * 32], [[(1, 2)], [(1, 2), (1, 3)]], [[(2, 4)]],
    [[(1, 0)]], [[(1, -1)]], [[1]], [[(True, 1)]], [[(1, True)]], [[(1, 2, 3)]], [[[1, 2]]], [(1, 2)], [None],
)


def triangle_of(count, w=1):
    """a triangle whose corners have so many values each"""
    return (
        (0, 0, w, 1, (0, 0, 9)[:count]), (8, 0, 2, 1, (8, 2, 9)[:count]), (0, 4, 1, 3, (6, 12, -1)[:count]),
    )


def with_corner(triangle, place, corner):
    return triangle[:place] + (corner,) + triangle[place + 1:]


def makers(pattern=PATTERN, colour=(1, 2), part=(1, 3)):
    """for each kind, by its word: of a triangle the thing"""
    return {
        "plain": lambda triangle: Plain(triangle, colour), "shaded": Shaded,
        "patterned": lambda triangle: Patterned(triangle, pattern),
        "glass": lambda triangle: Glass(triangle, colour, part),
    }


def one_of_each():
    return [make(triangle_of(3)) for make in makers().values()]


def wrong_triangles():
    right = triangle_of(2)
    found = [None, 3, True, "abc", (), [], list(right), right[:2], right + right[:1]]
    for place in range(3):
        corner = right[place]
        for number in (True, None, "1", 1.0, (1,)):
            for at in range(4):
                found.append(with_corner(right, place, corner[:at] + (number,) + corner[at + 1:]))
        for wrong in (
            None, list(corner), corner[:4], corner + (1,), corner[:3] + (0,) + corner[4:],
            corner[:3] + (-1,) + corner[4:], corner[:4] + (None,), corner[:4] + ([1, 2],), corner[:4] + ((1,),),
            corner[:4] + ((1, 2, 3),), corner[:4] + ((1, 2, 3, 4),), corner[:4] + ((1, True),),
            corner[:4] + ((1.0, 2),), corner[:4] + ((),),
        ):
            found.append(with_corner(right, place, wrong))
    return found + [tuple([corner[:4] + ((1, 2, 3, 4),) for corner in right])]


def behind_the_eye():
    found = []
    for count, place, w in itertools.product(range(4), range(3), (0, -1, -MOST)):
        triangle = triangle_of(count)
        corner = triangle[place]
        found.append(with_corner(triangle, place, corner[:2] + (w,) + corner[3:]))
    return found + [tuple([corner[:2] + (-1,) + corner[3:] for corner in triangle_of(3)])]


class Case(unittest.TestCase):
    def assertRefused(self, error, make, *given):
        with self.assertRaises(YardError, msg=repr(given)) as caught:
            make(*given)
        self.assertIs(type(caught.exception), error, given)


class Kinds(unittest.TestCase):
    def test_all_right_beneath_thing(self):
        for kind in KINDS:
            self.assertEqual(kind.__bases__, (Thing,))

    def test_none_is_another(self):
        for (number, thing), (other, kind) in itertools.product(enumerate(one_of_each()), enumerate(KINDS)):
            self.assertIsInstance(thing, Thing)
            self.assertEqual(isinstance(thing, kind), number == other)

    def test_words(self):
        self.assertEqual([thing.word() for thing in one_of_each()], ["plain", "shaded", "patterned", "glass"])
        for word, make in makers().items():
            self.assertEqual(make(triangle_of(3)).word(), word)

    def test_glass_alone_is_glass(self):
        told = [thing.is_glass() for thing in one_of_each()]
        self.assertEqual(told, [False, False, False, True])
        self.assertEqual([type(truth) for truth in told], [bool] * 4)

    def test_triangle_as_handed_in(self):
        for make, w in itertools.product(makers().values(), (1, 2, MOST)):
            triangle = triangle_of(3, w)
            before = copy.deepcopy(triangle)
            self.assertEqual(make(triangle).triangle, before)
            self.assertEqual(triangle, before)

    def test_triangle_of_many_figures(self):
        one = triangle_of(3)
        far = tuple([mixed(corner, one[1], 10 ** 40 + 1, 3 ** 70) for corner in one])
        for make in makers().values():
            self.assertEqual(make(far).triangle, far)

    def test_flat_triangles_are_triangles(self):
        flat = ((4, 4, 1, 1, (1, 1)),) * 3
        for make in makers().values():
            self.assertEqual(make(flat).triangle, flat)

    def test_colour_and_part_as_handed_in(self):
        for colour in COLOURS:
            self.assertEqual(Plain(triangle_of(0), colour).colour, colour)
            for part in PARTS:
                glass = Glass(triangle_of(0), colour, part)
                self.assertEqual([glass.colour, glass.part], [colour, part])

    def test_pattern_as_handed_in(self):
        for rows, places in itertools.product((1, 2, 4, 8, 16), repeat=2):
            pattern = [[(row, 2 * place + 1) if row == 1 else (place - row, 1) for place in range(places)]
                       for row in range(rows)]
            before = copy.deepcopy(pattern)
            thing = Patterned(triangle_of(2), pattern)
            self.assertEqual(thing.pattern, before)
            self.assertEqual([type(thing.pattern)] + [type(row) for row in thing.pattern], [list] * (rows + 1))


VALUES = [
    (), ((1, 2),), ((0, 1), (0, 1)), ((1, 1), (0, 1)), ((0, 1), (1, 1)), ((3, 2), (-1, 2), (7, 1)),
    ((-5, 3), (9, 4), (0, 1)),
]


class ColourAt(unittest.TestCase):
    def test_plain_and_glass(self):
        for colour, values in itertools.product(COLOURS, VALUES):
            self.assertEqual(Plain(triangle_of(len(values)), colour).colour_at(values), colour)
            self.assertEqual(Glass(triangle_of(len(values)), colour, (1, 3)).colour_at(values), colour)

    def test_glass_is_of_its_colour_whatever_its_part(self):
        for part in PARTS:
            self.assertEqual(Glass(triangle_of(0), (5, 6), part).colour_at(()), (5, 6))

    def test_shaded(self):
        for values in VALUES[1:]:
            self.assertEqual(Shaded(triangle_of(len(values))).colour_at(values), values[0])

    def test_patterned(self):
        thing = Patterned(triangle_of(2), PATTERN)
        for u, v, expected in (
            ((0, 1), (0, 1), (1, 1)), ((1, 1), (0, 1), (0, 1)), ((0, 1), (1, 1), (1, 2)), ((3, 2), (5, 4), (-3, 1)),
            ((-1, 2), (0, 1), (0, 1)), ((0, 1), (-1, 2), (1, 2)), ((2, 1), (-2, 1), (1, 1)), ((-7, 2), (9, 2), (1, 1)),
        ):
            self.assertEqual(thing.colour_at((u, v)), expected)

    def test_patterned_as_the_pattern_tells(self):
        fractions = [Fraction(top, bottom) for top in range(-37, 38, 5) for bottom in (1, 2, 3)]
        fractions = [(one.numerator, one.denominator) for one in fractions]
        for rows, places in ((1, 1), (1, 8), (4, 1), (2, 4), (16, 8)):
            pattern = [[(100 * row + place, 1) for place in range(places)] for row in range(rows)]
            thing = Patterned(triangle_of(2), pattern)
            for u, v in itertools.product(fractions, fractions):
                self.assertEqual(thing.colour_at((u, v)), told_at(pattern, u, v))

    def test_a_third_value_plays_no_part(self):
        for third in COLOURS:
            self.assertEqual(Shaded(triangle_of(3)).colour_at(((1, 2), (4, 1), third)), (1, 2))
            self.assertEqual(Patterned(triangle_of(3), PATTERN).colour_at(((0, 1), (1, 1), third)), (1, 2))

    def test_of_what_is_seen_at_a_point(self):
        triangle = ((0, 0, 1, 1, (0, 0)), (4, 0, 1, 1, (4, 0)), (0, 4, 1, 1, (0, 4)))
        for point, first, second in (
            ((1, 1, 2), (1, 2), (1, 1)), ((3, 1, 2), (3, 2), (0, 1)), ((3, 3, 2), (3, 2), (-3, 1)),
        ):
            values = seen_at(triangle, point)[1]
            self.assertEqual(Shaded(triangle).colour_at(values), first)
            self.assertEqual(Patterned(triangle, PATTERN).colour_at(values), second)


class WrongTriangles(Case):
    def test_no_triangle(self):
        for triangle, make in itertools.product(wrong_triangles(), makers().values()):
            self.assertRefused(BadTriangle, make, triangle)

    def test_w_of_nothing_and_below(self):
        for triangle, make in itertools.product(behind_the_eye(), makers().values()):
            self.assertRefused(BadTriangle, make, triangle)

    def test_least_w(self):
        for make in makers().values():
            self.assertEqual(make(triangle_of(2, 1)).triangle[0][2], 1)

    def test_ahead_of_all_else(self):
        # Everything else is wrong too, and the triangle is what is told.
        for triangle in wrong_triangles() + behind_the_eye():
            for wrong in (None, (2, 4), (True, 1)):
                self.assertRefused(BadTriangle, Plain, triangle, wrong)
                self.assertRefused(BadTriangle, Glass, triangle, wrong, (1, 2))
                self.assertRefused(BadTriangle, Glass, triangle, (1, 2), wrong)
                self.assertRefused(BadTriangle, Glass, triangle, wrong, wrong)
            self.assertRefused(BadTriangle, Glass, triangle, (1, 2), (3, 2))
            for pattern in NO_PATTERNS:
                self.assertRefused(BadTriangle, Patterned, triangle, pattern)

    def test_ahead_of_values_too_few(self):
        for count, place in itertools.product((0, 1), range(3)):
            triangle = triangle_of(count)
            corner = triangle[place]
            for wrong in (corner[:2] + (0,) + corner[3:], corner[:3] + (0,) + corner[4:], corner[:4], None):
                changed = with_corner(triangle, place, wrong)
                self.assertRefused(BadTriangle, Shaded, changed)
                self.assertRefused(BadTriangle, Patterned, changed, PATTERN)
                self.assertRefused(BadTriangle, Patterned, changed, None)

    def test_unlike_counts_of_values(self):
        for counts in itertools.product(range(4), repeat=3):
            corners = [triangle_of(count)[place] for place, count in enumerate(counts)]
            if len(set(counts)) > 1:
                for make in makers().values():
                    self.assertRefused(BadTriangle, make, tuple(corners))


class WrongThings(Case):
    def test_counts_of_values(self):
        for word, least in (("plain", 0), ("shaded", 1), ("patterned", 2), ("glass", 0)):
            for count in range(4):
                if count < least:
                    self.assertRefused(BadThing, makers()[word], triangle_of(count))
                else:
                    self.assertEqual(makers()[word](triangle_of(count)).triangle, triangle_of(count))

    def test_values_too_few_ahead_of_the_pattern(self):
        for count, pattern in itertools.product((0, 1), NO_PATTERNS):
            self.assertRefused(BadThing, Patterned, triangle_of(count), pattern)

    def test_colours(self):
        for colour, count in itertools.product(NO_FRACTIONS, (0, 3)):
            self.assertRefused(BadThing, Plain, triangle_of(count), colour)
            self.assertRefused(BadThing, Glass, triangle_of(count), colour, (1, 2))

    def test_colours_are_not_bounded(self):
        for colour in BEYOND + [(-MOST, 1), (MOST, 1)]:
            self.assertEqual(Plain(triangle_of(0), colour).colour, colour)
            self.assertEqual(Glass(triangle_of(0), colour, (1, 2)).colour, colour)

    def test_parts_that_are_no_fractions(self):
        for part in NO_FRACTIONS:
            self.assertRefused(BadThing, Glass, triangle_of(1), (1, 2), part)

    def test_parts_beyond(self):
        for part in BEYOND:
            self.assertRefused(BadThing, Glass, triangle_of(1), (1, 2), part)

    def test_parts_of_nothing_and_one(self):
        for part in ((0, 1), (1, 1)):
            self.assertEqual(Glass(triangle_of(1), (1, 2), part).part, part)


class WrongPatterns(Case):
    def test_patterns(self):
        for pattern, count in itertools.product(NO_PATTERNS, (2, 3)):
            self.assertRefused(BadPattern, Patterned, triangle_of(count), pattern)

    def test_every_entry_is_looked_at(self):
        for row, place, wrong in itertools.product(range(2), range(2), NO_FRACTIONS):
            pattern = copy.deepcopy(PATTERN)
            pattern[row][place] = wrong
            self.assertRefused(BadPattern, Patterned, triangle_of(2), pattern)


class Like(unittest.TestCase):
    """things like one, of another triangle"""

    def test_kind_and_fields(self):
        other = triangle_of(3, 5)
        for thing in one_of_each():
            made = thing.like(other)
            self.assertIs(type(made), type(thing))
            self.assertEqual(vars(made), {**vars(thing), "triangle": other})
            self.assertEqual(thing.triangle, triangle_of(3))

    def test_each_has_its_own_pattern(self):
        thing = Patterned(triangle_of(2), PATTERN)
        made = thing.like(triangle_of(3))
        self.assertEqual(made.pattern, PATTERN)
        self.assertEqual(len({id(each) for each in [made.pattern, thing.pattern] + made.pattern + thing.pattern}), 6)


class HandedIn(unittest.TestCase):
    def test_pattern_stays_as_it_was(self):
        pattern = copy.deepcopy(PATTERN)
        thing = Patterned(triangle_of(2), pattern)
        thing.colour_at(((1, 2), (-1, 2)))
        self.assertEqual(pattern, PATTERN)
        self.assertEqual(thing.pattern, PATTERN)

    def test_pattern_changed_behind_changes_nothing(self):
        points = list(itertools.product([(0, 1), (1, 1)], repeat=2))
        pattern = copy.deepcopy(PATTERN)
        thing = Patterned(triangle_of(2), pattern)
        before = [thing.colour_at(values) for values in points]
        for change in (
            lambda: pattern[0].reverse(), lambda: pattern.reverse(), lambda: pattern[1].append((9, 1)),
            lambda: pattern[0].clear(), lambda: pattern.append(None), pattern.clear,
        ):
            change()
            self.assertEqual(thing.pattern, PATTERN)
            self.assertEqual([thing.colour_at(values) for values in points], before)

    def test_a_pattern_of_two_things(self):
        # Neither thing holds the other one's lists, nor those handed in.
        pattern = copy.deepcopy(PATTERN)
        one, other = Patterned(triangle_of(2), pattern), Patterned(triangle_of(2), pattern)
        lists = [pattern, one.pattern, other.pattern]
        lists += pattern + one.pattern + other.pattern
        self.assertEqual(len({id(each) for each in lists}), 9)

    def test_things_keep_apart(self):
        one, other = Plain(triangle_of(0), (1, 2)), Plain(triangle_of(1), (1, 3))
        self.assertEqual([one.colour, one.triangle], [(1, 2), triangle_of(0)])
        self.assertEqual([other.colour, other.triangle], [(1, 3), triangle_of(1)])


class Interface(unittest.TestCase):
    def test_classes_and_arguments(self):
        for name, arguments in (
            ("Plain", ["triangle", "colour"]), ("Shaded", ["triangle"]), ("Patterned", ["triangle", "pattern"]),
            ("Glass", ["triangle", "colour", "part"]),
        ):
            self.assertEqual(list(inspect.signature(getattr(module, name)).parameters), arguments)

    def test_methods_and_arguments(self):
        for kind in KINDS:
            for name, arguments in (("word", []), ("is_glass", []), ("colour_at", ["values"])):
                self.assertEqual(list(inspect.signature(getattr(kind, name)).parameters), ["self"] + arguments)

    def test_fields(self):
        for thing, fields in zip(one_of_each(), (["colour"], [], ["pattern"], ["colour", "part"])):
            for field in ["triangle"] + fields:
                self.assertIn(field, vars(thing))


if __name__ == "__main__":
    unittest.main()
