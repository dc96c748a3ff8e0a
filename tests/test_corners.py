"""[1.2] checked, [1.3] thrown, [1.4] mixed corners, and what [0.2] asks of them."""

import copy
import inspect
import math
import unittest
from fractions import Fraction

from sampleyard import corners as module
from sampleyard.corners import check_triangle, mixed, thrown
from sampleyard.errors import BadTriangle, YardError

MOST = 10 ** 6
RIGHT = (
    ((0, 0, 1, 1, ()), (4, 0, 1, 1, ()), (0, 4, 1, 1, ())),
    ((0, 0, 0, 1, (0,)), (-4, 3, -2, 7, (5,)), (0, 0, 0, 1, (-9,))),
    ((1, 2, 3, 4, (5, 6)), (-1, -2, -3, 4, (-5, -6)), (7, 7, 7, 7, (7, 7))),
    ((1, 2, 3, 4, (5, 6, 7)), (2, 3, 4, 5, (6, 7, 8)), (3, 4, 5, 6, (7, 8, 9))),
    ((MOST, -MOST, MOST, MOST, (MOST, -MOST, 0)),) * 3,
    ((-MOST, -MOST, -MOST, 1, (-MOST, -MOST, -MOST)), (MOST, MOST, MOST, MOST, (MOST, MOST, MOST)),
     (0, 0, 0, 1, (0, 0, 0))),
)
NO_WHOLE = (True, False, None, "1", 1.0, (1,), [1])


def with_corner(triangle, place, corner):
    return triangle[:place] + (corner,) + triangle[place + 1:]


def with_number(corner, place, number):
    return corner[:place] + (number,) + corner[place + 1:]


class Check(unittest.TestCase):
    def assertRefused(self, triangle):
        with self.assertRaises(BadTriangle, msg=repr(triangle)) as caught:
            check_triangle(triangle)
        self.assertIs(type(caught.exception), BadTriangle)
        self.assertIsInstance(caught.exception, YardError)

    def assertCornerRefused(self, change):
        """change makes a wrong corner of a right one; it is set in each place of each right triangle"""
        for triangle in RIGHT:
            for place in range(3):
                self.assertRefused(with_corner(triangle, place, change(triangle[place])))

    def test_right_ones(self):
        for triangle in RIGHT:
            before = copy.deepcopy(triangle)
            self.assertIsNone(check_triangle(triangle))
            self.assertEqual(triangle, before)

    def test_least_h(self):
        for triangle in RIGHT:
            for place in range(3):
                corner = with_number(triangle[place], 3, 1)
                self.assertIsNone(check_triangle(with_corner(triangle, place, corner)))

    def test_told_corners_of_many_figures(self):
        far = (10 ** 40, -(10 ** 50), 10 ** 30 + 1, 3 ** 90, (10 ** 33, -(10 ** 44), 1))
        self.assertIsNone(check_triangle((far, far, far)))
        told = mixed(far, RIGHT[3][0], 10 ** 12 + 1, 7)
        self.assertIsNone(check_triangle((told, far, RIGHT[3][0])))

    def test_no_tuple(self):
        for triangle in RIGHT:
            self.assertRefused(list(triangle))
        for thing in (None, 3, True, "abc", [], {}, {0: 1, 1: 2, 2: 3}):
            self.assertRefused(thing)

    def test_another_count_of_corners(self):
        for triangle in RIGHT:
            self.assertRefused(())
            self.assertRefused(triangle[:1])
            self.assertRefused(triangle[:2])
            self.assertRefused(triangle + triangle[:1])
            self.assertRefused(triangle + triangle)

    def test_corner_that_is_no_tuple(self):
        self.assertCornerRefused(list)
        for thing in (None, 5, False, "corner", "abcde", {}):
            self.assertCornerRefused(lambda corner: thing)

    def test_corner_of_another_length(self):
        self.assertCornerRefused(lambda corner: ())
        self.assertCornerRefused(lambda corner: corner[:3])
        self.assertCornerRefused(lambda corner: corner[:4])
        self.assertCornerRefused(lambda corner: corner[1:])
        self.assertCornerRefused(lambda corner: corner + ((),))
        self.assertCornerRefused(lambda corner: corner + (1,))
        self.assertCornerRefused(lambda corner: corner[:4] + corner[4])

    def test_number_that_is_none(self):
        for number in NO_WHOLE:
            for place in range(4):
                self.assertCornerRefused(lambda corner: with_number(corner, place, number))

    def test_h_below_one(self):
        for h in (0, -1, -MOST):
            self.assertCornerRefused(lambda corner: with_number(corner, 3, h))

    def test_values_that_are_no_tuple(self):
        self.assertCornerRefused(lambda corner: with_number(corner, 4, list(corner[4])))
        for thing in (None, 1, True, "", "123", {}):
            self.assertCornerRefused(lambda corner: with_number(corner, 4, thing))

    def test_four_values(self):
        self.assertCornerRefused(lambda corner: with_number(corner, 4, (1, 2, 3, 4)))
        four = tuple([with_number(corner, 4, (1, 2, 3, 4)) for corner in RIGHT[0]])
        self.assertRefused(four)

    def test_values_that_are_no_whole_numbers(self):
        for triangle in RIGHT[1:]:
            for place in range(3):
                corner = triangle[place]
                for at in range(len(corner[4])):
                    for number in NO_WHOLE:
                        wrong = with_number(corner, 4, with_number(corner[4], at, number))
                        self.assertRefused(with_corner(triangle, place, wrong))

    def test_unlike_counts_of_values(self):
        for triangle in RIGHT:
            count = len(triangle[0][4])
            for place in range(3):
                for other in range(4):
                    corner = with_number(triangle[place], 4, (1, 2, 3)[:other])
                    changed = with_corner(triangle, place, corner)
                    if other == count:
                        self.assertIsNone(check_triangle(changed))
                    else:
                        self.assertRefused(changed)
        one, two, three = RIGHT[0]
        self.assertRefused((one, with_number(two, 4, (1,)), with_number(three, 4, (1, 2))))


class Thrown(unittest.TestCase):
    def test_ordinary(self):
        self.assertEqual(thrown((6, -4, 8, 3, ())), ((3, 4), (-1, 2)))
        self.assertEqual(thrown((6, 4, 2, 1, (9,))), ((3, 1), (2, 1)))

    def test_nothing_and_below(self):
        self.assertEqual(thrown((0, 0, 5, 1, ())), ((0, 1), (0, 1)))
        self.assertEqual(thrown((0, -5, 10, 1, ())), ((0, 1), (-1, 2)))
        self.assertEqual(thrown((-7, 0, 7, 1, ())), ((-1, 1), (0, 1)))
        self.assertEqual(thrown((-7, -8, 1, 1, ())), ((-7, 1), (-8, 1)))

    def test_x_by_w_and_y_by_w(self):
        numbers = (-MOST, -12, -1, 0, 1, 6, 35, MOST, 10 ** 25, -(10 ** 25) - 1)
        for x in numbers:
            for y in numbers:
                for w in (1, 2, 6, MOST, 10 ** 24):
                    told = thrown((x, y, w, 4, (1, 2)))
                    expected = [Fraction(x, w), Fraction(y, w)]
                    self.assertEqual(told, tuple([(one.numerator, one.denominator) for one in expected]))
                    self.assertEqual([type(told), type(told[0]), type(told[1])], [tuple, tuple, tuple])

    def test_h_and_values_play_no_part(self):
        for h in (1, 2, 3, MOST):
            for values in ((), (1,), (-1, 5), (6, 6, 6)):
                self.assertEqual(thrown((6, -9, 3, h, values)), ((2, 1), (-3, 1)))

    def test_w_of_nothing_and_below(self):
        for w in (0, -1, -MOST, -(10 ** 30)):
            for x in (-3, 0, 3):
                with self.assertRaises(BadTriangle):
                    thrown((x, 2, w, 1, (1,)))


def numbers_of(corner):
    return list(corner[:4]) + list(corner[4])


def mixed_by_hand(one, other, first, second):
    sums = [a * first + b * second for a, b in zip(numbers_of(one), numbers_of(other))]
    sums = [number // math.gcd(*sums) for number in sums]
    return tuple(sums[:4]) + (tuple(sums[4:]),)


def great(seed, count):
    return (10 ** 30 + seed, -(10 ** 25) * seed, 7 ** 40 - seed, 6 ** 30 + seed, (5 ** 30, -(3 ** 50), seed)[:count])


PAIRS = [
    ((1, 2, 3, 4, ()), (5, 6, 7, 8, ())),
    ((0, 0, 0, 1, ()), (0, 0, 0, 1, ())),
    ((2, 4, 6, 8, (10,)), (-3, 6, -9, 12, (15,))),
    ((-MOST, MOST, -MOST, MOST, (MOST, 0)), (MOST, MOST, -MOST, 1, (-MOST, 7))),
    ((6, -9, 12, 3, (0, 3, -6)), (5, 5, 5, 5, (5, 5, 5))),
] + [(great(11, count), great(600, count)) for count in range(4)]
AMOUNTS = [(1, 1), (1, 2), (2, 1), (3, 5), (6, 6), (0, 4), (4, 0), (10 ** 12, 1), (MOST, MOST + 1), (9 ** 30, 6 ** 30)]


class Mixed(unittest.TestCase):
    def test_ordinary(self):
        self.assertEqual(mixed((0, 0, 1, 1, (0,)), (4, 2, 1, 1, (10,)), 1, 1), (2, 1, 1, 1, (5,)))
        self.assertEqual(mixed((0, 0, 1, 1, ()), (3, 6, 1, 1, ()), 2, 1), (1, 2, 1, 1, ()))
        self.assertEqual(mixed((1, 2, 3, 4, ()), (5, 6, 7, 8, ()), 1, 2), (11, 14, 17, 20, ()))

    def test_divisor_is_that_of_all_numbers(self):
        # Each place in turn holds the one number that keeps the others from being halved.
        for place in range(7):
            numbers = [4, 8, 4, 8, 4, 8, 4]
            numbers[place] = 5
            corner = tuple(numbers[:4]) + (tuple(numbers[4:]),)
            self.assertEqual(mixed(corner, corner, 2, 1), corner)
        self.assertEqual(mixed((4, 8, 4, 8, (4, 8, 4)), (4, 8, 4, 8, (4, 8, 4)), 2, 1), (1, 2, 1, 2, (1, 2, 1)))

    def test_by_hand(self):
        for one, other in PAIRS:
            for first, second in AMOUNTS:
                told = mixed(one, other, first, second)
                self.assertEqual(told, mixed_by_hand(one, other, first, second))
                self.assertEqual([type(told), type(told[4])], [tuple, tuple])
                self.assertGreaterEqual(told[3], 1)
                self.assertEqual(math.gcd(*numbers_of(told)), 1)

    def test_by_one_and_nothing(self):
        self.assertEqual(mixed((2, 4, 6, 8, (10,)), (7, 7, 7, 7, (7,)), 1, 0), (1, 2, 3, 4, (5,)))
        self.assertEqual(mixed((7, 7, 7, 7, (7,)), (2, 4, 6, 8, (10,)), 0, 1), (1, 2, 3, 4, (5,)))
        self.assertEqual(mixed((0, 0, 0, 9, (0, 0, 0)), (1, 1, 1, 1, (1, 1, 1)), 1, 0), (0, 0, 0, 1, (0, 0, 0)))
        self.assertEqual(mixed((3, 5, 7, 2, ()), (1, 1, 1, 1, ()), 1, 0), (3, 5, 7, 2, ()))
        self.assertEqual(mixed((-4, -6, -8, 2, ()), (1, 1, 1, 1, ()), 9, 0), (-2, -3, -4, 1, ()))

    def test_the_other_way_round(self):
        for one, other in PAIRS:
            for first, second in AMOUNTS:
                self.assertEqual(mixed(one, other, first, second), mixed(other, one, second, first))

    def test_amounts_with_a_common_part(self):
        for one, other in PAIRS:
            self.assertEqual(mixed(one, other, 6, 10), mixed(one, other, 3, 5))

    def test_count_of_values(self):
        for one, other in PAIRS:
            self.assertEqual(len(mixed(one, other, 2, 3)[4]), len(one[4]))

    def test_told_corners_mixed_again(self):
        for one, other in PAIRS:
            told = mixed(one, other, 3, 4)
            again = mixed(told, other, 5, 6)
            self.assertEqual(again, mixed_by_hand(mixed_by_hand(one, other, 3, 4), other, 5, 6))
            self.assertEqual(mixed(told, told, 1, 1), told)
            self.assertIsNone(check_triangle((again, told, other)))

    def test_long_chain(self):
        one, other = PAIRS[4]
        by_hand = (one, other)
        for step in range(1, 41):
            one, other = other, mixed(one, other, step, MOST - step)
            by_hand = (by_hand[1], mixed_by_hand(by_hand[0], by_hand[1], step, MOST - step))
        self.assertEqual((one, other), by_hand)

    def test_told_is_new_each_time(self):
        corner = (3, 5, 7, 2, (1, 4))
        first = mixed(corner, corner, 1, 0)
        second = mixed(corner, corner, 1, 0)
        self.assertEqual([first, second], [corner, corner])
        self.assertIsNot(first, corner)
        self.assertIsNot(first, second)

    def test_stands_on_the_straight_line(self):
        for one, other in PAIRS:
            told = mixed(one, other, 2, 7)
            # The other's part of the way, by h, is the same for each place and each value.
            part = Fraction(7 * other[3], 2 * one[3] + 7 * other[3])
            for a, b, c in zip(numbers_of(one), numbers_of(other), numbers_of(told)):
                expected = (1 - part) * Fraction(a, one[3]) + part * Fraction(b, other[3])
                self.assertEqual(Fraction(c, told[3]), expected)


class Interface(unittest.TestCase):
    def test_names_and_arguments(self):
        for name, arguments in (
            ("check_triangle", ["triangle"]), ("thrown", ["corner"]), ("mixed", ["one", "other", "first", "second"]),
        ):
            self.assertEqual(list(inspect.signature(getattr(module, name)).parameters), arguments)


if __name__ == "__main__":
    unittest.main()
