"""FRACTIONS: pairs (TOP, BOTTOM) of whole numbers in lowest terms, BOTTOM above 0."""

from math import gcd, lcm

from evenwheels.errors import OutOfPlace


def is_whole(thing):
    """Whether anything is a whole number; True and False are none."""
    return type(thing) == int


def is_tuple_of(thing, many):
    """Whether anything is a tuple of just so many things."""
    return type(thing) == tuple and len(thing) == many


def is_fraction(thing):
    """Whether anything is a FRACTION."""
    if not is_tuple_of(thing, 2):
        return False
    top, bottom = thing
    return is_whole(top) and is_whole(bottom) and bottom > 0 and gcd(top, bottom) == 1


def need_fraction(thing):
    """None, or OutOfPlace of what is no FRACTION."""
    if not is_fraction(thing):
        raise OutOfPlace("no fraction in lowest terms")


def lowest(top, bottom):
    """The FRACTION of two whole numbers, bottom known not to be 0."""
    common = gcd(top, bottom)
    if bottom < 0:
        common = -common
    return (top // common, bottom // common)


def fraction(top, bottom=1):
    """The FRACTION of two whole numbers."""
    if not is_whole(top) or not is_whole(bottom):
        raise OutOfPlace("a fraction is made of whole numbers")
    if bottom == 0:
        raise OutOfPlace("a fraction has no bottom of nought")
    return lowest(top, bottom)


def plus(one, other):
    """The sum of two FRACTIONS."""
    return lowest(one[0] * other[1] + other[0] * one[1], one[1] * other[1])


def less(one, other):
    """The first FRACTION less the other one."""
    return lowest(one[0] * other[1] - other[0] * one[1], one[1] * other[1])


def times(one, other):
    """The product of two FRACTIONS."""
    return lowest(one[0] * other[0], one[1] * other[1])


def over(one, other):
    """The first FRACTION divided by the other one."""
    if is_nought(other):
        raise OutOfPlace("nothing goes by nought")
    return lowest(one[0] * other[1], one[1] * other[0])


def half(one):
    """Half of a FRACTION."""
    return lowest(one[0], 2 * one[1])


def is_nought(one):
    """Whether a FRACTION is nought."""
    return one[0] == 0


def total(things):
    """The sum of any number of FRACTIONS in a list or tuple."""
    bottom = 1
    for _, under in things:
        bottom = lcm(bottom, under)
    return lowest(sum([top * (bottom // under) for top, under in things]), bottom)
