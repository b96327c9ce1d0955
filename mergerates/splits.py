"""Splits of a lot into two lots, and the time until strokes have linked the two."""

from itertools import combinations

from mergerates.checks import MOST_NAMES, check_size, lot_taken, some_lot_taken, wrong_name
from mergerates.errors import BadLot
from mergerates.labels import all_partings
from mergerates.polynomials import poly_among


def sides_taken(n, side, other):
    """The two lots, which have no common name."""
    for place, lot in enumerate([side, other]):
        if wrong_name(lot, n) is not None or len(lot) == 0:
            raise BadLot(place)
    taken = [lot_taken(side, n), lot_taken(other, n)]
    if any([name in taken[0] for name in taken[1]]):
        raise BadLot(1)
    return taken


def are_linked(p, side, other):
    """True if some name of the one lot is together with some name of the other."""
    marks = [p[name] for name in side]
    return any([p[name] in marks for name in other])


def lots_within(names):
    """All lots of some of the names, the empty one too."""
    return [lot for size in range(len(names) + 1) for lot in combinations(names, size)]


def splits_of(lot):
    """The list of the splits of a lot, the least name in the first of the two lots, ascending."""
    first, *rest = some_lot_taken(lot, MOST_NAMES)
    found = []
    for more in lots_within(rest):
        if len(more) < len(rest):
            found.append(((first, *more), tuple([name for name in rest if name not in more])))
    return sorted(found)


def broken_by(j, side, other):
    """The list of the strokes in which the two lots are linked, ascending."""
    return [x for x, _ in j.strokes() if are_linked(x, side, other)]


def breaks(j, side, other):
    """The list of the strokes that break side|other, ascending."""
    first, second = sides_taken(j.size, side, other)
    return broken_by(j, first, second)


def all_extensions(n, side, other):
    """The extensions of two lots that have been looked at, ascending."""
    free = [name for name in range(n) if name not in side and name not in other]
    found = []
    for more in lots_within(free):
        rest = [name for name in free if name not in more]
        found.append((tuple(sorted([*side, *more])), tuple(sorted([*other, *rest]))))
    return sorted(found)


def extensions(n, side, other):
    """The list of the splits of n names that keep the two lots apart, ascending."""
    check_size(n, "n")
    first, second = sides_taken(n, side, other)
    return all_extensions(n, first, second)


def least_broken(j, side, other):
    """The first extension of two lots whose strokes break all of them, None if there is none."""
    splits = all_extensions(j.size, side, other)
    broken = [broken_by(j, first, second) for first, second in splits]
    common = [x for x in broken[0] if all([x in strokes for strokes in broken])]
    return splits[broken.index(common)] if common in broken else None


def least_extension(j, side, other):
    """The first extension such that each stroke that breaks it breaks every extension, or None."""
    first, second = sides_taken(j.size, side, other)
    return least_broken(j, first, second)


def apart_poly(j, side, other):
    """The chance that no name of the one lot is together with a name of the other."""
    first, second = sides_taken(j.size, side, other)
    return poly_among(j, [t for t in all_partings(j.size) if not are_linked(t, first, second)])


def memory_free(j, side, other):
    """True if the two lots meet without memory."""
    return least_extension(j, side, other) is not None
