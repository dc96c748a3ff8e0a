"""Rows of cells: their middles [3.1], masks of edges and triangles [3.2, 3.4], stretches [3.3]."""

from sampleyard.edges import check_before_eye, had, side


def middle(column, row):
    return (2 * column + 1, 2 * row + 1, 2)


def middles(width, row):
    return [middle(column, row) for column in range(width)]


def mask_of(truths):
    bits = 0
    for column, truth in enumerate(truths):
        if truth:
            bits = bits | (1 << column)
    return bits


def left_mask(a, b, width, row):
    return mask_of([side(a, b, point) == 1 for point in middles(width, row)])


def row_mask(triangle, width, row):
    # Asked here too, so that a row without cells refuses what any other row does.
    check_before_eye(triangle)
    return mask_of([had(triangle, point) != 0 for point in middles(width, row)])


def stretches(bits):
    found = []
    first = None
    # One column beyond the last bit, where a run that reaches the upper end is over.
    for column in range(bits.bit_length() + 1):
        is_set = ((bits >> column) & 1) == 1
        if is_set and first is None:
            first = column
        elif not is_set and first is not None:
            found.append((first, column))
            first = None
    return found


def filled_mask(triangles, width, row):
    filled = 0
    for triangle in triangles:
        filled = filled | row_mask(triangle, width, row)
    return filled


def shared_mask(triangles, width, row):
    filled = 0
    shared = 0
    for triangle in triangles:
        bits = row_mask(triangle, width, row)
        shared = shared | (filled & bits)
        filled = filled | bits
    return shared
