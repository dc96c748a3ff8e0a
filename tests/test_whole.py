"""[0.2] A whole number is an int that is no truth; what several of them are divided by and come to."""

import math
import unittest

from sampleyard.whole import greatest_divisor, is_between, is_whole, summed_products


class Whole(unittest.TestCase):
    def test_whole_numbers(self):
        for number in (0, 1, -1, 10 ** 6, -(10 ** 6), 10 ** 40):
            self.assertIs(is_whole(number), True)

    def test_truths_are_none(self):
        self.assertIs(is_whole(True), False)
        self.assertIs(is_whole(False), False)

    def test_other_things_are_none(self):
        for thing in (None, "1", 1.0, (1,), [1], {}):
            self.assertIs(is_whole(thing), False)


class Between(unittest.TestCase):
    def test_both_ends_count(self):
        for number in range(-5, 6):
            self.assertIs(is_between(number, -2, 3), number in (-2, -1, 0, 1, 2, 3))
            self.assertIs(is_between(number, 2, 2), number == 2)
            self.assertIs(is_between(number, 0, -1), False)

    def test_whole_numbers_alone(self):
        for thing in (True, False, None, "1", 1.0, (1,), [1]):
            self.assertIs(is_between(thing, 0, 9), False)


class GreatestDivisor(unittest.TestCase):
    def test_of_several(self):
        for numbers in (
            [6, -4], [0, 5], [5, 0], [0, 0, -7], [12, 18, 30], [-12, -18, -27], [1, 10 ** 30], [3 ** 50, 6 ** 40, 9],
            [0, 0, 0, 1], [4, 6, 9],
        ):
            before = list(numbers)
            self.assertEqual(greatest_divisor(numbers), math.gcd(*numbers))
            self.assertEqual(numbers, before)


class SummedProducts(unittest.TestCase):
    def test_of_threes(self):
        for three, other, expected in (
            ((1, 2, 3), (4, 5, 6), 32), ([0, 0, 7], (9, 9, -2), -14), ((1, 0, 0), (5, 6, 7), 5),
            ((0, 1, 0), (5, 6, 7), 6), ((10 ** 30, -1, 2), (10 ** 30, 3, 4), 10 ** 60 + 5),
        ):
            self.assertEqual(summed_products(three, other), expected)
            self.assertEqual(summed_products(other, three), expected)


if __name__ == "__main__":
    unittest.main()
