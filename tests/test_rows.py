"""[3.1] middles, [3.2] left and row masks, [3.3] stretches, [3.4] filled and shared masks; [0.2] of them."""

import copy
import inspect
import itertools
import unittest

from sampleyard import rows as module
from sampleyard.edges import had, side
from sampleyard.errors import BadTriangle, YardError
from sampleyard.rows import filled_mask, left_mask, middle, row_mask, shared_mask, stretches

WIDTHS = (1, 2, 12, 63, 64)
ROWS = (0, 1, 5, 11, 63)


def at(x, y, w=1, h=1, values=()):
    return (x, y, w, h, values)


# On corners of cells, on their middles, between, far without, and of unlike w.
CORNERS = [
    at(0, 0), at(12, 0), at(3, 12), at(1, 1, 2), at(23, 3, 2), at(11, 23, 2), at(-40, 70), at(200, 64), at(64, -3, 1),
    at(128, 129, 2), at(10, 35, 3),
]
TRIANGLES = list(itertools.combinations(CORNERS, 3)) + [
    (at(0, 0), at(0, 64), at(64, 0)), (at(64, 64), at(0, 64), at(64, 0)), (at(0, 0), at(2, 2), at(9, 9)),
    (at(4, 4), at(4, 4), at(4, 4)),
]
# The whole floor, of either turn, and far beyond it.
WHOLE = (at(-200, -200), at(500, -200), at(-200, 500))
WRONG = [
    (at(0, 0, 0), at(12, 0), at(3, 12)), (at(0, 0), at(12, 0, -1), at(3, 12)), (at(0, 0), at(12, 0), at(3, 12, -7)),
    (at(0, 0, -1), at(12, 0, -1), at(3, 12, -1)), (at(900, 900), at(901, 900), at(900, 901, 0)),
]


def bits_of(bits, width):
    return [(bits >> column) & 1 for column in range(width)]


def had_by(triangles, column, row):
    """how many of the triangles have the middle of the cell"""
    return len([triangle for triangle in triangles if had(triangle, (2 * column + 1, 2 * row + 1, 2)) != 0])


class Middle(unittest.TestCase):
    def test_middle(self):
        for column, row, expected in (
            (0, 0, (1, 1, 2)), (1, 0, (3, 1, 2)), (0, 1, (1, 3, 2)), (63, 63, (127, 127, 2)), (5, 40, (11, 81, 2)),
        ):
            told = middle(column, row)
            self.assertEqual(told, expected)
            self.assertIs(type(told), tuple)


class LeftMask(unittest.TestCase):
    def test_upright(self):
        # Up the line between the columns 2 and 3: the three cells ahead of it lie to its left.
        for row in ROWS:
            self.assertEqual(left_mask(at(3, 0), at(3, 1), 12, row), 0b111)
            self.assertEqual(left_mask(at(3, 1), at(3, 0), 12, row), 0b111111111000)
            self.assertEqual(left_mask(at(0, 0), at(0, 1), 12, row), 0)
            self.assertEqual(left_mask(at(64, 0), at(64, 1), 64, row), (1 << 64) - 1)

    def test_through_middles(self):
        # The hair to the right takes the middle that lies on the edge to the right of one that rises.
        self.assertEqual(left_mask(at(7, 0, 2), at(7, 2, 2), 12, 4), 0b111)
        self.assertEqual(left_mask(at(7, 2, 2), at(7, 0, 2), 12, 4), 0b111111111000)
        # And a level edge is left below by the hair up.
        self.assertEqual(left_mask(at(0, 9, 2), at(2, 9, 2), 12, 4), 0b111111111111)
        self.assertEqual(left_mask(at(2, 9, 2), at(0, 9, 2), 12, 4), 0)

    def test_slanted(self):
        told = [left_mask(at(0, 0), at(4, 4), 4, row) for row in range(4)]
        self.assertEqual(told, [0b0000, 0b0001, 0b0011, 0b0111])

    def test_against_side(self):
        edges = list(itertools.permutations(CORNERS + [at(3, 4, 0), at(-5, 2, -1), at(-30, -30, -4)], 2))
        for width, row in itertools.product((1, 12, 64), (0, 5, 63)):
            for a, b in edges[::3]:
                told = left_mask(a, b, width, row)
                expected = [int(side(a, b, (2 * c + 1, 2 * row + 1, 2)) == 1) for c in range(width)]
                self.assertEqual(bits_of(told, width), expected)
                self.assertEqual(told >> width, 0)

    def test_the_other_way(self):
        for width, row in itertools.product(WIDTHS, ROWS):
            for a, b in itertools.combinations(CORNERS, 2):
                self.assertEqual(left_mask(a, b, width, row) ^ left_mask(b, a, width, row), (1 << width) - 1)

    def test_without_length(self):
        for width in WIDTHS:
            self.assertEqual(left_mask(at(3, 3), at(6, 6, 2), width, 3), 0)

    def test_nothing_is_asked_of_w(self):
        self.assertEqual(left_mask(at(3, 0, 0), at(0, 4, -1), 1, 0), 1)
        self.assertEqual(left_mask(at(0, 4, -1), at(3, 0, 0), 1, 0), 0)


class RowMask(unittest.TestCase):
    def test_half_a_square(self):
        half = (at(0, 0), at(4, 0), at(0, 4))
        told = [row_mask(half, 4, row) for row in range(5)]
        self.assertEqual(told, [0b0111, 0b0011, 0b0001, 0, 0])
        other = (at(4, 4), at(0, 4), at(4, 0))
        told = [row_mask(other, 4, row) for row in range(5)]
        self.assertEqual(told, [0b1000, 0b1100, 0b1110, 0b1111, 0])

    def test_either_turn(self):
        for a, b, c in TRIANGLES:
            for row in ROWS:
                self.assertEqual(row_mask((a, b, c), 12, row), row_mask((c, b, a), 12, row))
                self.assertEqual(row_mask((a, b, c), 12, row), row_mask((b, c, a), 12, row))

    def test_against_had(self):
        for width, row in itertools.product((1, 12, 64), (0, 5, 63)):
            for triangle in TRIANGLES:
                told = row_mask(triangle, width, row)
                self.assertEqual(bits_of(told, width), [had_by([triangle], c, row) for c in range(width)])
                self.assertEqual(told >> width, 0)

    def test_all_bits_between(self):
        for triangle in TRIANGLES:
            for row in range(0, 64, 3):
                self.assertLessEqual(len(stretches(row_mask(triangle, 64, row))), 1)

    def test_whole_row(self):
        for width, row in itertools.product(WIDTHS, ROWS):
            self.assertEqual(row_mask(WHOLE, width, row), (1 << width) - 1)
            self.assertEqual(row_mask(WHOLE[::-1], width, row), (1 << width) - 1)

    def test_flat(self):
        for width, row in itertools.product(WIDTHS, ROWS):
            self.assertEqual(row_mask((at(0, 0), at(3, 3), at(64, 64)), width, row), 0)

    def test_refused(self):
        for triangle in WRONG:
            for width, row in itertools.product((0,) + WIDTHS, ROWS):
                with self.assertRaises(BadTriangle) as caught:
                    row_mask(triangle, width, row)
                self.assertIsInstance(caught.exception, YardError)


class Stretches(unittest.TestCase):
    def test_none(self):
        self.assertEqual(stretches(0), [])

    def test_one_bit(self):
        for column in range(70):
            self.assertEqual(stretches(1 << column), [(column, column + 1)])

    def test_all_bits(self):
        for width in range(1, 70):
            self.assertEqual(stretches((1 << width) - 1), [(0, width)])

    def test_several_runs(self):
        self.assertEqual(stretches(0b1101), [(0, 1), (2, 4)])
        self.assertEqual(stretches(0b1011001110), [(1, 4), (6, 8), (9, 10)])
        self.assertEqual(stretches(0b0110), [(1, 3)])
        self.assertEqual(stretches((1 << 63) | 1), [(0, 1), (63, 64)])
        self.assertEqual(stretches((0b111 << 61) | (0b11 << 30)), [(30, 32), (61, 64)])
        self.assertEqual(stretches(sum([1 << column for column in range(1, 64, 2)])),
                         [(column, column + 1) for column in range(1, 64, 2)])

    def test_back_again(self):
        for bits in list(range(1024)) + [number << 54 for number in range(1024)]:
            told = stretches(bits)
            self.assertEqual(sum([(1 << behind) - (1 << first) for first, behind in told]), bits)
            ends = [number for stretch in told for number in stretch]
            # Rising, never empty, and never two that touch.
            self.assertEqual(ends, sorted(set(ends)))
            self.assertEqual([type(told)] + [type(one) for one in told], [list] + [tuple] * len(told))

    def test_told_is_new_each_time(self):
        first = stretches(0b1101)
        first.append((9, 9))
        first[0] = None
        self.assertEqual(stretches(0b1101), [(0, 1), (2, 4)])


SQUARE = [(at(0, 0), at(12, 0), at(12, 12)), (at(0, 0), at(12, 12), at(0, 12))]
LISTS = [
    [], [WHOLE], SQUARE, SQUARE[:1] * 2, SQUARE[:1] + [WHOLE[::-1]], SQUARE + SQUARE[:1], SQUARE[:1] * 3,
    SQUARE[:1] * 4, SQUARE + [WHOLE] + SQUARE, TRIANGLES[:2], TRIANGLES[7:10], TRIANGLES[::9], TRIANGLES[-4:],
    [SQUARE[0], SQUARE[0][::-1]], [SQUARE[0], TRIANGLES[-2], SQUARE[1], TRIANGLES[-1]],
]


class SeveralTriangles(unittest.TestCase):
    def test_none_and_one(self):
        for width, row in itertools.product(WIDTHS, ROWS):
            self.assertEqual([filled_mask([], width, row), shared_mask([], width, row)], [0, 0])
            self.assertEqual(filled_mask([SQUARE[0]], width, row), row_mask(SQUARE[0], width, row))
            self.assertEqual(shared_mask([SQUARE[0]], width, row), 0)

    def test_that_fill_a_square(self):
        for row in range(12):
            self.assertEqual(filled_mask(SQUARE, 12, row), (1 << 12) - 1)
            self.assertEqual(shared_mask(SQUARE, 12, row), 0)

    def test_twice_and_more(self):
        for count in (2, 3, 4, 5):
            for row in range(12):
                bits = row_mask(SQUARE[0], 12, row)
                self.assertEqual(filled_mask(SQUARE[:1] * count, 12, row), bits)
                self.assertEqual(shared_mask(SQUARE[:1] * count, 12, row), bits)

    def test_unlike_turns(self):
        for row in range(12):
            bits = row_mask(SQUARE[0], 12, row)
            pair = [SQUARE[0], SQUARE[0][::-1]]
            self.assertEqual([filled_mask(pair, 12, row), shared_mask(pair, 12, row)], [bits, bits])

    def test_not_the_first_two(self):
        # The first and the last one share cells, those beside one another none.
        apart = (at(40, 40), at(41, 40), at(40, 41))
        for row in range(12):
            told = shared_mask([SQUARE[0], apart, SQUARE[0]], 12, row)
            self.assertEqual(told, row_mask(SQUARE[0], 12, row))

    def test_against_had(self):
        for triangles in LISTS:
            for width, row in itertools.product((1, 12, 64), (0, 1, 5, 11, 63)):
                counts = [had_by(triangles, column, row) for column in range(width)]
                filled = filled_mask(triangles, width, row)
                shared = shared_mask(triangles, width, row)
                self.assertEqual(bits_of(filled, width), [int(count >= 1) for count in counts])
                self.assertEqual(bits_of(shared, width), [int(count >= 2) for count in counts])
                self.assertEqual([filled >> width, shared >> width], [0, 0])

    def test_refused_wherever_it_stands(self):
        for wrong in WRONG:
            for triangles in (
                [wrong], [wrong] + SQUARE, SQUARE + [wrong], SQUARE[:1] + [wrong] + SQUARE[1:],
                [WHOLE, WHOLE, WHOLE, wrong],
            ):
                for width, row in itertools.product((0, 1, 64), (0, 63)):
                    with self.assertRaises(BadTriangle):
                        filled_mask(triangles, width, row)
                    with self.assertRaises(BadTriangle):
                        shared_mask(triangles, width, row)

    def test_lists_stay_as_they_were(self):
        for triangles in LISTS:
            before = copy.deepcopy(triangles)
            filled, shared = filled_mask(triangles, 12, 5), shared_mask(triangles, 12, 5)
            self.assertEqual(triangles, before)
            self.assertEqual([filled_mask(triangles, 12, 5), shared_mask(triangles, 12, 5)], [filled, shared])

    def test_nothing_is_kept(self):
        triangles = [SQUARE[0]]
        self.assertEqual([filled_mask(triangles, 12, 5), shared_mask(triangles, 12, 5)], [0b111111100000, 0])
        triangles.append(SQUARE[1])
        self.assertEqual([filled_mask(triangles, 12, 5), shared_mask(triangles, 12, 5)], [0b111111111111, 0])
        triangles.append(SQUARE[0])
        self.assertEqual(shared_mask(triangles, 12, 5), 0b111111100000)
        triangles.clear()
        self.assertEqual([filled_mask(triangles, 12, 5), shared_mask(triangles, 12, 5)], [0, 0])


class Kinds(unittest.TestCase):
    def test_masks_are_whole_numbers(self):
        for told in (
            left_mask(at(3, 0), at(3, 1), 12, 0), left_mask(at(3, 0), at(3, 0), 12, 0), row_mask(WHOLE, 12, 0),
            row_mask(TRIANGLES[-1], 12, 0), filled_mask([], 12, 0), filled_mask([WHOLE], 1, 0),
            shared_mask([], 12, 0), shared_mask([WHOLE, WHOLE], 1, 0),
        ):
            self.assertIs(type(told), int)


class Interface(unittest.TestCase):
    def test_names_and_arguments(self):
        for name, arguments in (
            ("middle", ["column", "row"]), ("left_mask", ["a", "b", "width", "row"]),
            ("row_mask", ["triangle", "width", "row"]), ("stretches", ["bits"]),
            ("filled_mask", ["triangles", "width", "row"]), ("shared_mask", ["triangles", "width", "row"]),
        ):
            self.assertEqual(list(inspect.signature(getattr(module, name)).parameters), arguments)


if __name__ == "__main__":
    unittest.main()
