"""[0.2] The refusals, and the interface of sampleyard.errors."""

import unittest

from sampleyard.errors import BadFloor, BadPattern, BadThing, BadTriangle, NoRow, YardError

REFUSALS = (BadTriangle, BadThing, BadFloor, BadPattern, NoRow)


def made(refusal):
    return refusal(7) if refusal is NoRow else refusal("words")


class Refusals(unittest.TestCase):
    def test_base_stands_right_under_value_error(self):
        self.assertEqual(YardError.__bases__, (ValueError,))

    def test_each_stands_right_under_the_base(self):
        for refusal in REFUSALS:
            self.assertEqual(refusal.__bases__, (YardError,), refusal.__name__)

    def test_each_is_taken_as_its_base_and_as_value_error(self):
        for refusal in REFUSALS:
            for taken in (refusal, YardError, ValueError):
                with self.assertRaises(taken):
                    raise made(refusal)

    def test_none_is_another(self):
        for refusal in REFUSALS:
            for other in REFUSALS:
                self.assertEqual(isinstance(made(refusal), other), refusal is other)

    def test_names(self):
        names = [refusal.__name__ for refusal in REFUSALS]
        self.assertEqual(names, ["BadTriangle", "BadThing", "BadFloor", "BadPattern", "NoRow"])

    def test_no_row_bears_its_number(self):
        for at in (0, 1, 12):
            with self.assertRaises(NoRow) as caught:
                raise NoRow(at)
            self.assertEqual(caught.exception.at, at)


if __name__ == "__main__":
    unittest.main()
