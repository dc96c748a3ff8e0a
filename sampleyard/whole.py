"""Whole numbers: what is one [0.2], also between two others, what divides several, and what they come to."""


def is_whole(thing):
    # Python counts True and False among the ints; the document doesn't.
    return isinstance(thing, int) and not isinstance(thing, bool)


def is_between(thing, least, most):
    return is_whole(thing) and thing >= least and thing <= most


def greatest_divisor(numbers):
    # Begun at 0, which every number divides, so the first number that isn't 0 is taken as it is.
    found = 0
    for number in numbers:
        rest = abs(number)
        while rest != 0:
            left = found % rest
            found = rest
            rest = left
    return found


def summed_products(three, other):
    # Written out: every side of every edge at every point comes down to this sum.
    return three[0] * other[0] + three[1] * other[1] + three[2] * other[2]
