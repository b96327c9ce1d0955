"""Exact amounts: integers and fractions, which are tuples (top, bottom) in lowest terms."""

from math import gcd, lcm

from mergerates.checks import amount_taken, amounts_taken, check_within, is_integer
from mergerates.errors import BadNumber


def reduced(top, bottom):
    """The fraction top / bottom, for integers with bottom other than 0."""
    common = gcd(top, bottom)
    if bottom < 0:
        common = -common
    return (top // common, bottom // common)


def on_one_bottom(pairs):
    """New tops and one bottom for all of the pairs (top, bottom), their bottoms being above 0."""
    bottom = 1
    for _, part in pairs:
        bottom = lcm(bottom, part)
    return [top * (bottom // part) for top, part in pairs], bottom


def summed(pairs):
    """The sum of pairs (top, bottom) with bottoms above 0; they need not be in lowest terms."""
    tops, bottom = on_one_bottom(pairs)
    return reduced(sum(tops), bottom)


def fraction(top, bottom=1):
    """top divided by bottom."""
    if not is_integer(top):
        raise BadNumber("top")
    if not is_integer(bottom) or bottom == 0:
        raise BadNumber("bottom")
    return reduced(top, bottom)


def two_taken(f, g):
    return [amount_taken(f, "f"), amount_taken(g, "g")]


def plus(f, g):
    """f + g."""
    return summed(two_taken(f, g))


def minus(f, g):
    """f - g."""
    (a, b), (c, d) = two_taken(f, g)
    return reduced(a * d - c * b, b * d)


def multiply(f, g):
    """f times g."""
    (a, b), (c, d) = two_taken(f, g)
    return reduced(a * c, b * d)


def over(f, g):
    """f divided by g."""
    (a, b), (c, d) = two_taken(f, g)
    if c == 0:
        raise BadNumber("g")
    return reduced(a * d, b * c)


def compare(f, g):
    """-1, 0 or 1 if f is less than, equal to or more than g."""
    (a, b), (c, d) = two_taken(f, g)
    if a * d == c * b:
        return 0
    return -1 if a * d < c * b else 1


def power(f, k):
    """The product of k factors f."""
    a, b = amount_taken(f, "f")
    check_within(k, 0, 400, "k")
    top = 1
    bottom = 1
    for _ in range(k):
        top = top * a
        bottom = bottom * b
    return (top, bottom)


def total(rest):
    """The sum of a list of fractions and integers."""
    return summed(amounts_taken(rest))


def shown(f):
    """The text of a fraction: the top alone where the bottom is 1."""
    top, bottom = amount_taken(f, "f")
    return str(top) if bottom == 1 else f"{top}/{bottom}"
