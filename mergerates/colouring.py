"""Sums over colours: what a random parting tells by the numbers of its blocks."""

from math import perm

from mergerates.amounts import summed
from mergerates.checks import check_within
from mergerates.labels import all_partings, block_count, mobius
from mergerates.tables import colour_count, sums_below

MOST_COLOURS = 6


def weighed(numbers, factors):
    """The sum of the numbers, fractions, each of them times its integer factor."""
    return summed([(top * factor, bottom) for (top, bottom), factor in zip(numbers, factors)])


def colour_sum(chances, k):
    """The sum of the chances of X = t, each times the number of ways to give the blocks of t k colours."""
    check_within(k, 0, MOST_COLOURS, "k")
    return weighed(chances.table, [colour_count(t, k) for t in all_partings(chances.size)])


def by_colourings(chances, k):
    """The sum of below(t) over all rows of colours, t holding together the names of equal colours."""
    check_within(k, 0, MOST_COLOURS, "k")
    # So many rows of colours have just the names of each block of t alike.
    rows = [perm(k, block_count(t)) for t in all_partings(chances.size)]
    return weighed(sums_below(chances.size, chances.table), rows)


def joined_sum(chances):
    """The chance of X = whole, told by all below(t)."""
    factors = [mobius((0,) * block_count(t)) for t in all_partings(chances.size)]
    return weighed(sums_below(chances.size, chances.table), factors)
