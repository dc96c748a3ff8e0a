"""[0.2] A whole number is an int that is no truth."""

import math
import unittest

from sampleyard.whole import greatest_divisor, is_whole


class Whole(unittest.TestCase):
    def test_whole_numbers(self):
        for number in (0, 1, -1, 10 ** 6, -(10 ** 6), 10 ** 40):
            self.assertIs(is_whole(number), True)

    def test_truths_are_none(self):
        self.assertIs(is_whole(True), False)
        self.assertIs(is_whole(False), False)

    def test_other_things_are_none(self):
        for thing in (None, "1", 1.0, (1,), [1], {}):
            self.assertIs(is_whole(thing), False)


class GreatestDivisor(unittest.TestCase):
    def test_of_several(self):
        for numbers in (
            [6, -4], [0, 5], [5, 0], [0, 0, -7], [12, 18, 30], [-12, -18, -27], [1, 10 ** 30], [3 ** 50, 6 ** 40, 9],
            [0, 0, 0, 1], [4, 6, 9],
        ):
            before = list(numbers)
            self.assertEqual(greatest_divisor(numbers), math.gcd(*numbers))
            self.assertEqual(numbers, before)


if __name__ == "__main__":
    unittest.main()
