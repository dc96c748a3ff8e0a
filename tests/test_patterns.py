"""[9.1] what is no pattern, [9.2] halved ones, [9.3] chains, [9.4] what is told at u and v; [0.2] of them."""

import copy
import inspect
import itertools
import unittest
from fractions import Fraction

from sampleyard import patterns as module
from sampleyard.errors import BadPattern, YardError
from sampleyard.patterns import chain, halved, told_at

COUNTS = (1, 2, 4, 8, 16)
SHAPES = list(itertools.product(COUNTS, COUNTS))
ASKED = (
    halved, chain, lambda pattern: told_at(pattern, (0, 1), (0, 1)), lambda pattern: told_at(pattern, (-7, 2), (9, 4)),
)


def as_told(number):
    number = Fraction(number)
    return (number.numerator, number.denominator)


def made(rows, places, seed=0):
    """a pattern with hardly two alike: whole ones, broken ones, ones below 0 and 0 itself"""
    return [
        [as_told(Fraction((37 * row + 11 * place + seed) % 101 - 50, (row + 2 * place + seed) % 7 + 1))
         for place in range(places)] for row in range(rows)
    ]


def with_entry(pattern, row, place, entry):
    changed = [list(one) for one in pattern]
    changed[row][place] = entry
    return changed


NO_FRACTIONS = (
    None, 0, 1, True, False, "12", "1/2", 0.5, [1, 2], {}, (), (1,), (1, 2, 3), ((1, 2),), ((1, 2), 1), (2, 4), (0, 2),
    (-6, 4), (5, 5), (10 ** 30, 10 ** 20), (1, 0), (0, 0), (1, -2), (-1, -2), (0, -1), (True, 1), (False, 1), (1, True),
    (True, True), (1.0, 2), (1, 2.0), ("1", "2"), (None, 1), (1, None),
)


class NoPattern(unittest.TestCase):
    def assertRefused(self, pattern):
        for asked in ASKED:
            with self.assertRaises(BadPattern, msg=repr(pattern)) as caught:
                asked(pattern)
            self.assertIs(type(caught.exception), BadPattern)
            self.assertIsInstance(caught.exception, YardError)

    def assertAllowed(self, pattern):
        for asked in ASKED:
            asked(pattern)

    def test_right_ones(self):
        for rows, places in SHAPES:
            self.assertAllowed(made(rows, places))
        self.assertAllowed([[(10 ** 40, 3)], [(-(10 ** 40) - 1, 10 ** 30)]])

    def test_no_list(self):
        for thing in (None, 0, 1, True, "", "ab", (), {}, {0: [(1, 2)]}, (1, 2), ([(1, 2)],), ([(1, 2)], [(1, 2)])):
            self.assertRefused(thing)
        for rows, places in SHAPES:
            self.assertRefused(tuple(made(rows, places)))

    def test_no_rows(self):
        self.assertRefused([])

    def test_rows_without_fractions(self):
        for rows in COUNTS:
            self.assertRefused([[]] * rows)

    def test_a_row_that_is_no_list(self):
        for rows, places in SHAPES:
            pattern = made(rows, places)
            for row in sorted({0, rows // 2, rows - 1}):
                for thing in (None, 1, True, "ab", {}, (1, 2), tuple(pattern[row]), dict(enumerate(pattern[row]))):
                    self.assertRefused(pattern[:row] + [thing] + pattern[row + 1:])

    def test_a_list_of_fractions_alone(self):
        for count in COUNTS:
            self.assertRefused([(1, 2)] * count)

    def test_other_counts_of_rows(self):
        for rows in [count for count in range(34) if count not in COUNTS] + [64, 256]:
            for places in (1, 2, 16):
                self.assertRefused([[(1, 2)] * places for row in range(rows)])

    def test_other_counts_in_a_row(self):
        for places in [count for count in range(34) if count not in COUNTS] + [64, 256]:
            for rows in (1, 2, 16):
                self.assertRefused([[(1, 2)] * places for row in range(rows)])

    def test_rows_of_unlike_lengths(self):
        for (rows, places), other in itertools.product(SHAPES, COUNTS):
            if rows == 1 or other == places:
                continue
            for row in sorted({0, 1, rows // 2, rows - 1}):
                pattern = made(rows, places)
                pattern[row] = [(1, 2)] * other
                self.assertRefused(pattern)

    def test_entries_that_are_no_fractions(self):
        for rows, places in ((1, 1), (1, 4), (2, 1), (2, 2), (4, 2), (16, 16)):
            spread = itertools.product(sorted({0, rows // 2, rows - 1}), sorted({0, places // 2, places - 1}))
            for (row, place), entry in itertools.product(list(spread), NO_FRACTIONS):
                self.assertRefused(with_entry(made(rows, places), row, place, entry))

    def test_every_place_is_looked_at(self):
        for row, place in itertools.product(range(8), range(8)):
            self.assertRefused(with_entry(made(8, 8), row, place, (2, 4)))


def mean_by_hand(entries):
    return as_told(sum([Fraction(*entry) for entry in entries]) / len(entries))


def halved_by_hand(pattern):
    rows, places = len(pattern), len(pattern[0])
    found = []
    for row in range(max(rows // 2, 1)):
        found.append([])
        for place in range(max(places // 2, 1)):
            # Those that stand in its place are those whose own place, by how many there are, falls into it.
            entries = [
                pattern[r][p] for r in range(rows) for p in range(places)
                if r * max(rows // 2, 1) // rows == row and p * max(places // 2, 1) // places == place
            ]
            found[-1].append(mean_by_hand(entries))
    return found


class Halved(unittest.TestCase):
    def test_of_four(self):
        self.assertEqual(halved([[(1, 1), (0, 1)], [(1, 2), (-3, 1)]]), [[(-3, 8)]])
        self.assertEqual(halved([[(1, 1), (3, 1)], [(5, 1), (7, 1)]]), [[(4, 1)]])

    def test_of_sixteen(self):
        pattern = [[(4 * row + place, 1) for place in range(4)] for row in range(4)]
        self.assertEqual(halved(pattern), [[(5, 2), (9, 2)], [(21, 2), (25, 2)]])

    def test_sides_unlike_in_length(self):
        pattern = [[(1, 1), (2, 1), (3, 1), (6, 1)], [(0, 1), (1, 1), (1, 2), (1, 2)]]
        self.assertEqual(halved(pattern), [[(1, 1), (5, 2)]])
        self.assertEqual(halved([list(row) for row in zip(*pattern)]), [[(1, 1)], [(5, 2)]])

    def test_of_one_row(self):
        self.assertEqual(halved([[(1, 1), (2, 1), (3, 1), (-6, 1)]]), [[(3, 2), (-3, 2)]])
        self.assertEqual(halved([[(1, 2), (1, 3)]]), [[(5, 12)]])

    def test_of_one_in_a_row(self):
        self.assertEqual(halved([[(1, 1)], [(2, 1)], [(3, 1)], [(-6, 1)]]), [[(3, 2)], [(-3, 2)]])
        self.assertEqual(halved([[(1, 2)], [(1, 3)]]), [[(5, 12)]])

    def test_of_one_fraction(self):
        for fraction in ((0, 1), (1, 1), (-3, 2), (10 ** 30, 7)):
            self.assertEqual(halved([[fraction]]), [[fraction]])

    def test_each_shape(self):
        for rows, places in SHAPES:
            told = halved(made(rows, places))
            self.assertEqual(len(told), {1: 1, 2: 1, 4: 2, 8: 4, 16: 8}[rows])
            self.assertEqual([len(row) for row in told], [{1: 1, 2: 1, 4: 2, 8: 4, 16: 8}[places]] * len(told))

    def test_by_hand(self):
        for (rows, places), seed in itertools.product(SHAPES, (0, 5)):
            pattern = made(rows, places, seed)
            told = halved(pattern)
            self.assertEqual(told, halved_by_hand(pattern))
            self.assertEqual([type(told)] + [type(row) for row in told], [list] * (len(told) + 1))
            for entry in itertools.chain.from_iterable(told):
                self.assertEqual([type(entry)] + [type(number) for number in entry], [tuple, int, int])

    def test_one_entry_alone(self):
        # Each one in turn stands out: it is a quarter of the one in whose place it stands, and of no other.
        for row, place in itertools.product(range(4), range(8)):
            pattern = with_entry([[(0, 1)] * 8 for each in range(4)], row, place, (1, 1))
            expected = with_entry([[(0, 1)] * 4 for each in range(2)], row // 2, place // 2, (1, 4))
            self.assertEqual(halved(pattern), expected)

    def test_is_a_pattern_again(self):
        for rows, places in SHAPES:
            halved(halved(made(rows, places)))


class Chain(unittest.TestCase):
    def test_small_ones(self):
        self.assertEqual(chain([[(1, 2)]]), [[[(1, 2)]]])
        self.assertEqual(chain([[(1, 1), (2, 1)]]), [[[(1, 1), (2, 1)]], [[(3, 2)]]])
        self.assertEqual(chain([[(1, 1)], [(2, 1)]]), [[[(1, 1)], [(2, 1)]], [[(3, 2)]]])
        pattern = [[(1, 1), (2, 1), (3, 1), (6, 1)], [(0, 1), (1, 1), (1, 2), (1, 2)]]
        self.assertEqual(chain(pattern), [pattern, [[(1, 1), (5, 2)]], [[(7, 4)]]])

    def test_how_many(self):
        steps = {1: 0, 2: 1, 4: 2, 8: 3, 16: 4}
        for rows, places in SHAPES:
            told = chain(made(rows, places))
            self.assertIs(type(told), list)
            self.assertEqual(len(told), 1 + max(steps[rows], steps[places]))

    def test_first_and_last(self):
        for (rows, places), seed in itertools.product(SHAPES, (0, 5)):
            pattern = made(rows, places, seed)
            told = chain(pattern)
            self.assertEqual(told[0], pattern)
            entries = list(itertools.chain.from_iterable(pattern))
            self.assertEqual(told[-1], [[mean_by_hand(entries)]])

    def test_each_is_the_one_ahead_halved(self):
        for rows, places in SHAPES:
            told = chain(made(rows, places))
            for one, behind in zip(told, told[1:]):
                self.assertEqual(behind, halved_by_hand(one))
                # Only the last one has one fraction.
                self.assertGreater(len(one) * len(one[0]), 1)


class ToldAt(unittest.TestCase):
    def test_within(self):
        pattern = [[(1, 1), (2, 1)], [(3, 1), (4, 1)], [(5, 1), (6, 1)], [(7, 1), (8, 1)]]
        for u, v, expected in (
            ((0, 1), (0, 1), 1), ((1, 1), (0, 1), 2), ((0, 1), (1, 1), 3), ((1, 1), (3, 1), 8), ((1, 2), (5, 2), 5),
            ((3, 2), (7, 4), 4), ((199, 100), (399, 100), 8),
        ):
            self.assertEqual(told_at(pattern, u, v), (expected, 1))

    def test_beyond_and_below(self):
        pattern = [[(1, 1), (2, 1)], [(3, 1), (4, 1)], [(5, 1), (6, 1)], [(7, 1), (8, 1)]]
        for u, v, expected in (
            ((2, 1), (0, 1), 1), ((3, 1), (4, 1), 2), ((0, 1), (-1, 1), 7), ((-1, 1), (0, 1), 2), ((-1, 2), (0, 1), 2),
            ((0, 1), (-1, 100), 7), ((-2, 1), (-4, 1), 1), ((-3, 2), (-9, 2), 7), ((-5, 2), (-17, 4), 8),
            ((5, 2), (21, 4), 3), ((10 ** 30 + 1, 1), (10 ** 30 + 2, 1), 6), ((-(10 ** 30), 7), (0, 1), 1),
            ((-(10 ** 30), 9), (0, 1), 1), ((10 ** 30, 9), (10 ** 30, 3), 4),
        ):
            self.assertEqual(told_at(pattern, u, v), (expected, 1))

    def test_row_is_v_and_place_is_u(self):
        self.assertEqual(told_at([[(0, 1), (5, 1)]], (1, 1), (0, 1)), (5, 1))
        self.assertEqual(told_at([[(0, 1), (5, 1)]], (0, 1), (1, 1)), (0, 1))
        self.assertEqual(told_at([[(0, 1)], [(5, 1)]], (1, 1), (0, 1)), (0, 1))
        self.assertEqual(told_at([[(0, 1)], [(5, 1)]], (0, 1), (1, 1)), (5, 1))

    def test_one_fraction(self):
        for u, v in itertools.product([(0, 1), (-7, 2), (99, 4), (10 ** 20, 3)], repeat=2):
            self.assertEqual(told_at([[(-3, 2)]], u, v), (-3, 2))

    def test_by_hand(self):
        numbers = [Fraction(top, bottom) for top in range(-40, 41, 3) for bottom in (1, 2, 3)]
        for rows, places in SHAPES:
            pattern = made(rows, places)
            # Laid side by side without end: the number of steps from the first one, either way, decides.
            for u, v in itertools.product(numbers[::2], numbers[1::3]):
                row, place = v.__floor__(), u.__floor__()
                while row < 0:
                    row += rows
                while row >= rows:
                    row -= rows
                while place < 0:
                    place += places
                while place >= places:
                    place -= places
                self.assertEqual(told_at(pattern, as_told(u), as_told(v)), pattern[row][place])


class HandedIn(unittest.TestCase):
    def test_stays_as_it_was(self):
        for (rows, places), asked in itertools.product(SHAPES, ASKED):
            pattern = made(rows, places)
            before = copy.deepcopy(pattern)
            first = asked(pattern)
            self.assertEqual(pattern, before)
            self.assertEqual(asked(pattern), first)

    def test_changed_behind_changes_nothing(self):
        for (rows, places), asked in itertools.product(SHAPES, ASKED):
            pattern = made(rows, places)
            told = asked(pattern)
            before = copy.deepcopy(told)
            for row in pattern:
                row[0] = (999, 1)
                row.append((1, 1))
            pattern.append([])
            self.assertEqual(told, before)

    def test_told_is_the_askers_own(self):
        for (rows, places), asked in itertools.product(SHAPES, (halved, lambda pattern: chain(pattern)[0])):
            pattern = made(rows, places)
            before = copy.deepcopy(pattern)
            first = asked(pattern)
            expected = copy.deepcopy(first)
            for row in first:
                row[0] = (999, 1)
                row.append(None)
            first.clear()
            self.assertEqual(pattern, before)
            self.assertEqual(asked(pattern), expected)

    def test_each_of_a_chain_is_the_askers_own(self):
        for rows, places in SHAPES:
            pattern = made(rows, places)
            told = chain(pattern)
            expected = copy.deepcopy(told)
            for number in range(len(told)):
                changed = chain(pattern)
                for row in changed[number]:
                    row.clear()
                changed[number].append(None)
                self.assertEqual(changed[:number] + changed[number + 1:], expected[:number] + expected[number + 1:])
                self.assertEqual(chain(pattern), expected)

    def test_no_list_is_told_twice(self):
        for rows, places in SHAPES:
            pattern = made(rows, places)
            patterns = [pattern, halved(pattern), halved(pattern)] + chain(pattern) + chain(pattern)
            lists = patterns + list(itertools.chain.from_iterable(patterns))
            self.assertEqual(len({id(one) for one in lists}), len(lists))

    def test_a_row_that_stands_in_several_places(self):
        row = [(1, 1), (2, 1)]
        told = chain([row, row])
        told[0][0][0] = (9, 1)
        self.assertEqual(told[0][1], [(1, 1), (2, 1)])


class Interface(unittest.TestCase):
    def test_names_and_arguments(self):
        for name, arguments in (
            ("halved", ["pattern"]), ("chain", ["pattern"]), ("told_at", ["pattern", "u", "v"]),
        ):
            self.assertEqual(list(inspect.signature(getattr(module, name)).parameters), arguments)


if __name__ == "__main__":
    unittest.main()
