"""Spots: several points a cell [8.1], which of them a triangle has, and how great a share [8.2]."""

from sampleyard.edges import check_before_eye, had
from sampleyard.fractions import ratio
from sampleyard.rows import mask_of


def spot_at(column, row, spot):
    return (8 * column + spot[0], 8 * row + spot[1], 8)


def had_spots(triangle, column, row, spots):
    # Asked here too, so that a list without spots refuses what any other list does.
    check_before_eye(triangle)
    return [had(triangle, spot_at(column, row, spot)) != 0 for spot in spots]


def mask(triangle, column, row, spots):
    return mask_of(had_spots(triangle, column, row, spots))


def share(triangle, column, row, spots):
    return ratio(had_spots(triangle, column, row, spots).count(True), len(spots))
