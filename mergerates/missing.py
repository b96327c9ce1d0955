"""Strokes with misses: their chances, chances told back as such strokes, and chances divided."""

from mergerates.amounts import over, reduced
from mergerates.chances import Chances
from mergerates.checks import (
    as_fraction, check_names, check_size, check_sizes, is_list, is_miss, listed_parting,
)
from mergerates.errors import BadParting, BadTable, NotInside, NotJoins
from mergerates.labels import all_partings, all_singles, is_finer
from mergerates.tables import sums_below, told_below


def stroke_taken(item, size, place, earlier):
    """The tuple (x, f) that an item at this place of a list is, x being none of the earlier strokes."""
    if not is_list(item) or len(item) != 2 or not is_miss(item[1]):
        raise BadTable(place)
    x = listed_parting(item[0], place)
    if x == all_singles(len(x)) or x in earlier:
        raise BadParting(place)
    check_names(x, size)
    return (x, as_fraction(item[1]))


def strokes_taken(size, strokes):
    """For each stroke its miss."""
    if not is_list(strokes):
        raise BadTable(-1)
    miss_of = {}
    for place, item in enumerate(strokes):
        x, miss = stroke_taken(item, size, place, miss_of)
        miss_of[x] = miss
    return miss_of


def product_of(rest):
    """The product of a list of fractions."""
    top = 1
    bottom = 1
    for a, b in rest:
        top = top * a
        bottom = bottom * b
    return reduced(top, bottom)


def chances_of(size, strokes):
    """The Chances of the join of the strokes that are there."""
    check_size(size, "size")
    miss_of = strokes_taken(size, strokes)
    lasting = [product_of([miss_of[x] for x in miss_of if not is_finer(x, t)]) for t in all_partings(size)]
    return Chances(size, told_below(size, lasting))


def misses_told(n, lasting):
    """The table of m(r) that fractions above 0, those at t standing for below(t), tell."""
    found = {}
    for r, number in list(zip(all_partings(n), lasting))[::-1]:
        # The number at singles, divided by that at r, is the product of m(x) over all x finer than r.
        inner = product_of([found[x] for x in found if is_finer(x, r)])
        found[r] = over(over(lasting[-1], number), inner)
    return tuple([found[r] for r in all_partings(n)])


def lasting_of(chances):
    """The table of below(t)."""
    return sums_below(chances.size, chances.table)


def never_singles(chances):
    return chances.table[-1] == (0, 1)


def check_singles(chances):
    """Refuses chances that are 0 at singles: nothing can be divided by them."""
    if never_singles(chances):
        raise NotInside(-1)


def is_more(f):
    """True if the fraction is more than 1."""
    top, bottom = f
    return top > bottom


def misses(chances):
    """The table of the misses that the chances tell, whether strokes can have them or not."""
    check_singles(chances)
    return misses_told(chances.size, lasting_of(chances))


def comes_of_strokes(chances):
    """True if the chances are those of some strokes with misses."""
    return not never_singles(chances) and not any([is_more(f) for f in misses(chances)])


def strokes_of(chances):
    """The list of the strokes (x, f) with misses below 1 of which the chances come."""
    every = all_partings(chances.size)
    if never_singles(chances):
        raise NotJoins(every[-1])
    told = misses(chances)
    for x, f in zip(every, told):
        if is_more(f):
            raise NotJoins(x)
    return [(x, f) for x, f in zip(every, told) if f != (1, 1)]


def lasting_divided(chances, other):
    """The table of below(t) of the chances, divided by below(t) of the other ones."""
    check_singles(other)
    return [over(f, g) for f, g in zip(lasting_of(chances), lasting_of(other))]


def quotient(chances, other):
    """The table with which the other chances must be joined to give the chances; it may be below 0."""
    check_sizes(chances, other)
    return told_below(chances.size, lasting_divided(chances, other))


def divides(other, chances):
    """True if the chances are the other ones joined with some chances."""
    check_sizes(other, chances)
    return all([top >= 0 for top, _ in quotient(chances, other)])


def divides_by_strokes(other, chances):
    """True if the chances are the other ones joined with chances that come of strokes."""
    check_sizes(other, chances)
    lasting = lasting_divided(chances, other)
    if never_singles(chances):
        return False
    return not any([is_more(f) for f in misses_told(chances.size, lasting)])
