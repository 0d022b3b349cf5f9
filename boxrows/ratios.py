"""Exact fractions: tuples (p, q) in lowest terms, q at least 1."""

from math import gcd

ZERO = (0, 1)
ONE = (1, 1)


def is_int(value):
    """Whether a value is an integer; True and False are none."""
    return isinstance(value, int) and not isinstance(value, bool)


def is_fraction(value):
    """Whether a value is a fraction in lowest terms."""
    if not isinstance(value, tuple) or len(value) != 2:
        return False
    p, q = value
    return is_int(p) and is_int(q) and q >= 1 and gcd(p, q) == 1


def is_rational(value):
    """Whether a value is an integer or a fraction."""
    return is_int(value) or is_fraction(value)


def as_fraction(value):
    """The fraction for an integer or a fraction."""
    return value if isinstance(value, tuple) else (value, 1)


def lowest(p, q):
    """The fraction p / q in lowest terms; q is at least 1."""
    common = gcd(p, q)
    return (p // common, q // common)


def plus(one, two):
    """The sum of two fractions."""
    return lowest(one[0] * two[1] + two[0] * one[1], one[1] * two[1])


def minus(one, two):
    """The first fraction less the second one."""
    return lowest(one[0] * two[1] - two[0] * one[1], one[1] * two[1])


def times(one, two):
    """The product of two fractions."""
    return lowest(one[0] * two[0], one[1] * two[1])


def over(one, two):
    """The first fraction by the second one, which is above 0."""
    return lowest(one[0] * two[1], one[1] * two[0])


def order(one, two):
    """An integer: negative if the first fraction is less, 0 if both are equal, positive otherwise."""
    return one[0] * two[1] - two[0] * one[1]


def floor(value):
    """The greatest integer that is not above a fraction."""
    return value[0] // value[1]


def ceiling(value):
    """The least integer that is not below a fraction."""
    return -(-value[0] // value[1])


def ascending(values):
    """The fractions of a list in ascending order, each once."""
    # Two fractions differ by 1 / (q * q) or more, q the greatest denominator; so
    # these integers are in the same order, and no two fractions have the same one.
    scale = max([value[1] for value in values], default=1)
    places = {p * scale * scale // q: (p, q) for p, q in values}
    return [places[at] for at in sorted(places)]
