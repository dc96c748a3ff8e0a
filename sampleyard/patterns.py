"""Patterns: what is one [9.1], made smaller [9.2, 9.3], and what one tells at two fractions [9.4]."""

from sampleyard.errors import BadPattern
from sampleyard.fractions import down, is_fraction, mean_of

COUNTS = (1, 2, 4, 8, 16)


def check_pattern(pattern):
    if not isinstance(pattern, list) or len(pattern) not in COUNTS:
        raise BadPattern("a pattern is a list of 1, 2, 4, 8 or 16 rows")
    for row in pattern:
        if not isinstance(row, list) or len(row) not in COUNTS:
            raise BadPattern("a row of a pattern is a list of 1, 2, 4, 8 or 16 fractions")
        if len(row) != len(pattern[0]):
            raise BadPattern("the rows of a pattern have as many fractions each")
        if not all([is_fraction(entry) for entry in row]):
            raise BadPattern("what stands in a pattern is a fraction in lowest terms")


def copied(pattern):
    return [list(row) for row in pattern]


def halved(pattern):
    check_pattern(pattern)
    # Of one row alone the slice has just that one; so it is in a row, too.
    return [half_row(pattern[at:at + 2]) for at in range(0, len(pattern), 2)]


def half_row(rows):
    means = []
    for at in range(0, len(rows[0]), 2):
        place = []
        for row in rows:
            place.extend(row[at:at + 2])
        means.append(mean_of(place))
    return means


def chain(pattern):
    check_pattern(pattern)
    found = [copied(pattern)]
    while len(found[-1]) > 1 or len(found[-1][0]) > 1:
        found.append(halved(found[-1]))
    return found


def told_at(pattern, u, v):
    check_pattern(pattern)
    return entry_at(pattern, u, v)


def entry_at(pattern, u, v):
    # Without the check: a thing's pattern was checked when the thing was made, and is asked at each point.
    row = pattern[down(v) % len(pattern)]
    return row[down(u) % len(row)]
