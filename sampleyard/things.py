"""Things: triangles with what is seen of them, of four kinds [6.1]; each makes others like it of other triangles."""

from sampleyard.corners import check_triangle
from sampleyard.edges import check_before_eye
from sampleyard.errors import BadThing
from sampleyard.fractions import is_fraction
from sampleyard.patterns import check_pattern, copied, entry_at


class Thing:
    def __init__(self, triangle):
        check_triangle(triangle)
        check_before_eye(triangle)
        self.triangle = triangle

    def is_glass(self):
        return False


class Plain(Thing):
    def __init__(self, triangle, colour):
        Thing.__init__(self, triangle)
        check_colour(colour)
        self.colour = colour

    def word(self):
        return "plain"

    def colour_at(self, values):
        return self.colour

    def like(self, triangle):
        return Plain(triangle, self.colour)


class Shaded(Thing):
    def __init__(self, triangle):
        Thing.__init__(self, triangle)
        check_values(triangle, 1)

    def word(self):
        return "shaded"

    def colour_at(self, values):
        return values[0]

    def like(self, triangle):
        return Shaded(triangle)


class Patterned(Thing):
    def __init__(self, triangle, pattern):
        Thing.__init__(self, triangle)
        check_values(triangle, 2)
        check_pattern(pattern)
        # A copy: what becomes of the lists that were handed in changes nothing.
        self.pattern = copied(pattern)

    def word(self):
        return "patterned"

    def colour_at(self, values):
        return entry_at(self.pattern, values[0], values[1])

    def like(self, triangle):
        return Patterned(triangle, self.pattern)


class Glass(Thing):
    def __init__(self, triangle, colour, part):
        Thing.__init__(self, triangle)
        check_colour(colour)
        check_part(part)
        self.colour = colour
        self.part = part

    def word(self):
        return "glass"

    def is_glass(self):
        return True

    def colour_at(self, values):
        return self.colour

    def like(self, triangle):
        return Glass(triangle, self.colour, self.part)


def check_values(triangle, least):
    # The corners of a triangle that was checked have as many values each.
    if len(triangle[0][4]) < least:
        raise BadThing(f"the corners of such a thing have {least} values or more")


def check_colour(colour):
    if not is_fraction(colour):
        raise BadThing("a colour is a fraction in lowest terms")


def check_part(part):
    if not is_fraction(part) or part[0] < 0 or part[0] > part[1]:
        raise BadThing("a part is a fraction in lowest terms, from 0 to 1")
