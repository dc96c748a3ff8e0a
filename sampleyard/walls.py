"""Walls: a corner's form [4.1], triangles cut by a wall [4.2] and by several, the walls of the eye [4.4]."""

from sampleyard.corners import mixed


def form(wall, corner):
    return wall[0] * corner[0] + wall[1] * corner[1] + wall[2] * corner[2] + wall[3] * corner[3]


def cut(triangle, wall):
    forms = [form(wall, corner) for corner in triangle]
    are_within = [number >= 0 for number in forms]
    if all(are_within):
        return ([triangle], [])
    if not any(are_within):
        return ([], [triangle])
    alone_is_within = are_within.count(True) == 1
    place = are_within.index(alone_is_within)
    pieces = parted(begun_at(triangle, place), begun_at(forms, place))
    if alone_is_within:
        return (pieces[:1], pieces[1:])
    return (pieces[1:], pieces[:1])


def begun_at(three, place):
    return three[place:] + three[:place]


def parted(corners, forms):
    # The corner that lies alone on its side comes first here, so its piece does, too.
    a = corners[0]
    b = corners[1]
    c = corners[2]
    ab = met(a, b, forms[0], forms[1])
    ca = met(c, a, forms[2], forms[0])
    return [(a, ab, ca), (ab, b, c), (ab, c, ca)]


def met(one, other, form_of_one, form_of_other):
    # Each is taken the other one's form's times: so the forms cancel, and the mixed corner's is 0.
    return mixed(one, other, abs(form_of_other), abs(form_of_one))


def eyewalls(width, height, near, far):
    return [
        (0, 0, 1, -near),
        (0, 0, -1, far),
        (1, 0, 0, 0),
        (-1, 0, width, 0),
        (0, 1, 0, 0),
        (0, -1, height, 0),
    ]


def within(triangle, walls):
    pieces = [triangle]
    for wall in walls:
        kept = []
        for piece in pieces:
            kept.extend(cut(piece, wall)[0])
        pieces = kept
    return pieces
