"""[1.1] Fractions, and what [0.2] asks of them."""

import inspect
import math
import unittest
from fractions import Fraction

from sampleyard import fractions as module
from sampleyard.fractions import (
    down, greatest_of, is_fraction, least_of, mean_of, minus, plus, product, ratio, under,
)

SMALL = list(range(-13, 14))
GREAT = [10 ** 20, -(10 ** 20) - 39, 2 ** 70 * 3 ** 5, -(6 ** 30), 12345678901234567890123456789, 10 ** 40 + 1]
FRACTIONS = [
    (0, 1), (1, 1), (-1, 1), (5, 1), (-7, 1), (1, 2), (-1, 2), (1, 3), (-2, 3), (5, 6), (-5, 6), (7, 4), (-9, 4),
    (99, 100), (100, 99), (10 ** 20 + 1, 10 ** 20), (-(10 ** 25) - 1, 3), (1, 7 ** 30), (-(11 ** 22), 2 ** 71),
]


def pairs():
    return [(one, other) for one in FRACTIONS for other in FRACTIONS]


class Case(unittest.TestCase):
    def assertFraction(self, told, expected):
        """expected is a Fraction; told must be that one in the form of 1.1"""
        self.assertIs(type(told), tuple)
        self.assertEqual([type(number) for number in told], [int, int])
        self.assertEqual(told, (expected.numerator, expected.denominator))


class Ratio(Case):
    def test_named_ones(self):
        self.assertEqual(ratio(6, -4), (-3, 2))
        self.assertEqual(ratio(0, 1), (0, 1))
        self.assertEqual(ratio(5, 1), (5, 1))

    def test_nothing_by_anything_is_one_fraction(self):
        for bottom in (1, -1, 7, -12, 10 ** 30, -(10 ** 30)):
            self.assertEqual(ratio(0, bottom), (0, 1))

    def test_signs(self):
        self.assertEqual(ratio(6, 4), (3, 2))
        self.assertEqual(ratio(-6, 4), (-3, 2))
        self.assertEqual(ratio(-6, -4), (3, 2))
        self.assertEqual(ratio(5, -1), (-5, 1))
        self.assertEqual(ratio(-12, -4), (3, 1))

    def test_lowest_terms(self):
        bottoms = [number for number in SMALL + GREAT if number != 0]
        for top in SMALL + GREAT:
            for bottom in bottoms:
                told = ratio(top, bottom)
                self.assertFraction(told, Fraction(top, bottom))
                self.assertGreaterEqual(told[1], 1)
                self.assertEqual(math.gcd(told[0], told[1]), 1)
                self.assertEqual(told[0] * bottom, told[1] * top)

    def test_common_part_of_many_figures(self):
        common = 3 ** 60
        self.assertEqual(ratio(14 * common, -21 * common), (-2, 3))
        self.assertEqual(ratio(-common, -common), (1, 1))
        self.assertEqual(ratio(common, 1), (common, 1))


class SumDifferenceProduct(Case):
    def test_ordinary(self):
        self.assertEqual(plus((1, 2), (1, 3)), (5, 6))
        self.assertEqual(plus((1, 2), (1, 2)), (1, 1))
        self.assertEqual(plus((1, 2), (-1, 2)), (0, 1))
        self.assertEqual(minus((1, 2), (1, 3)), (1, 6))
        self.assertEqual(minus((1, 3), (1, 2)), (-1, 6))
        self.assertEqual(minus((5, 6), (5, 6)), (0, 1))
        self.assertEqual(product((2, 3), (-3, 4)), (-1, 2))
        self.assertEqual(product((0, 1), (-3, 4)), (0, 1))

    def test_by_tops_and_bottoms(self):
        for one, other in pairs():
            top, bottom = one
            next_top, next_bottom = other
            both = bottom * next_bottom
            self.assertFraction(plus(one, other), Fraction(top * next_bottom + next_top * bottom, both))
            self.assertFraction(minus(one, other), Fraction(top * next_bottom - next_top * bottom, both))
            self.assertFraction(product(one, other), Fraction(top * next_top, both))

    def test_difference_undoes_sum(self):
        for one, other in pairs():
            self.assertEqual(minus(plus(one, other), other), one)


class Under(unittest.TestCase):
    def test_ordinary(self):
        self.assertIs(under((1, 3), (1, 2)), True)
        self.assertIs(under((1, 2), (1, 3)), False)

    def test_alike(self):
        for one in FRACTIONS:
            self.assertIs(under(one, one), False)

    def test_below_nothing(self):
        self.assertIs(under((-1, 2), (-1, 3)), True)
        self.assertIs(under((-1, 3), (-1, 2)), False)
        self.assertIs(under((-1, 3), (0, 1)), True)
        self.assertIs(under((0, 1), (-1, 3)), False)
        self.assertIs(under((-5, 1), (1, 100)), True)

    def test_every_pair(self):
        for one, other in pairs():
            self.assertIs(under(one, other), Fraction(*one) < Fraction(*other))

    def test_ones_that_hardly_differ(self):
        great = 10 ** 40
        self.assertIs(under((great, great + 1), (great + 1, great + 2)), True)
        self.assertIs(under((great + 1, great + 2), (great, great + 1)), False)


class Down(unittest.TestCase):
    def test_named_ones(self):
        for one, whole in (
            ((7, 2), 3), ((1, 2), 0), ((-1, 2), -1), ((-7, 2), -4), ((0, 1), 0), ((5, 1), 5), ((-5, 1), -5),
            ((99, 100), 0), ((-99, 100), -1), ((-101, 100), -2), ((10 ** 30 + 1, 10), 10 ** 29),
            ((-(10 ** 30) - 1, 10), -(10 ** 29) - 1),
        ):
            self.assertEqual(down(one), whole)

    def test_greatest_that_is_not_above(self):
        for one in FRACTIONS:
            told = down(one)
            self.assertIs(type(told), int)
            self.assertLessEqual(told, Fraction(*one))
            self.assertGreater(told + 1, Fraction(*one))


class Mean(Case):
    def test_of_one(self):
        for one in FRACTIONS:
            self.assertEqual(mean_of([one]), one)

    def test_of_alike_ones(self):
        for one in FRACTIONS:
            for count in (2, 3, 16):
                self.assertEqual(mean_of([one] * count), one)

    def test_of_some(self):
        self.assertEqual(mean_of([(1, 2), (1, 3)]), (5, 12))
        self.assertEqual(mean_of([(1, 1), (2, 1), (3, 1)]), (2, 1))
        self.assertEqual(mean_of([(1, 2), (-1, 2)]), (0, 1))
        self.assertEqual(mean_of([(1, 1), (0, 1), (0, 1), (0, 1)]), (1, 4))

    def test_of_sixteen(self):
        some = [(2 * k - 15, k + 1) for k in range(16)]
        some = [ratio(top, bottom) for top, bottom in some]
        self.assertFraction(mean_of(some), sum([Fraction(*one) for one in some]) / 16)

    def test_of_every_count(self):
        for count in range(1, len(FRACTIONS) + 1):
            some = FRACTIONS[:count]
            self.assertFraction(mean_of(some), sum([Fraction(*one) for one in some]) / count)

    def test_in_another_order(self):
        told = mean_of(list(FRACTIONS))
        for turn in range(len(FRACTIONS)):
            turned = FRACTIONS[turn:] + FRACTIONS[:turn]
            self.assertEqual(mean_of(turned), told)
            self.assertEqual(mean_of(turned[::-1]), told)

    def test_list_stays_as_it_was(self):
        some = [(1, 2), (-3, 4), (5, 1)]
        before = list(some)
        first = mean_of(some)
        self.assertEqual(some, before)
        self.assertEqual(mean_of(some), first)

    def test_list_changed_behind_changes_nothing(self):
        some = [(1, 2), (3, 2)]
        told = mean_of(some)
        some.append((100, 1))
        self.assertEqual(told, (1, 1))


class LeastAndGreatest(unittest.TestCase):
    def test_of_every_count_and_order(self):
        for count in range(1, len(FRACTIONS) + 1):
            for turn in range(count):
                some = FRACTIONS[:count][turn:] + FRACTIONS[:count][:turn]
                before = list(some)
                exact = sorted([Fraction(*one) for one in some])
                self.assertEqual(Fraction(*least_of(some)), exact[0])
                self.assertEqual(Fraction(*greatest_of(some)), exact[-1])
                self.assertEqual(some, before)

    def test_of_alike_ones(self):
        for some in ([(1, 2)], [(1, 2), (1, 2)], [(-3, 1)] * 5):
            self.assertEqual([least_of(some), greatest_of(some)], [some[0], some[0]])


class IsFraction(unittest.TestCase):
    def test_fractions(self):
        for one in FRACTIONS:
            self.assertIs(is_fraction(one), True)

    def test_what_is_told_is_one(self):
        for top in SMALL + GREAT:
            for bottom in (1, -1, 6, -35, 10 ** 30):
                self.assertIs(is_fraction(ratio(top, bottom)), True)

    def test_lowest_terms_alone(self):
        for top in SMALL:
            for bottom in SMALL:
                expected = bottom >= 1 and math.gcd(top, bottom) == 1
                self.assertIs(is_fraction((top, bottom)), expected, (top, bottom))

    def test_others(self):
        for thing in (
            None, 0, 1, True, "12", 0.5, [1, 2], {}, (), (1,), (1, 2, 3), ((1, 2), 1), (1, (1, 2)), (True, 1),
            (False, 1), (1, True), (0, True), (1.0, 2), (1, 2.0), ("1", 2), (1, "2"), (None, 1), (1, None),
        ):
            self.assertIs(is_fraction(thing), False, thing)


class ToldNew(unittest.TestCase):
    def test_told_is_new_each_time(self):
        one = (5, 7)
        for make in (
            lambda: ratio(5, 7), lambda: plus(one, (0, 1)), lambda: minus(one, (0, 1)), lambda: product(one, (1, 1)),
            lambda: mean_of([one]),
        ):
            first = make()
            second = make()
            self.assertEqual([first, second], [one, one])
            self.assertIsNot(first, one)
            self.assertIsNot(first, second)


class Interface(unittest.TestCase):
    def test_names_and_arguments(self):
        for name, arguments in (
            ("ratio", ["top", "bottom"]), ("plus", ["one", "other"]), ("minus", ["one", "other"]),
            ("product", ["one", "other"]), ("mean_of", ["some"]), ("under", ["one", "other"]), ("down", ["one"]),
        ):
            self.assertEqual(list(inspect.signature(getattr(module, name)).parameters), arguments)


if __name__ == "__main__":
    unittest.main()
