"""Names left out of a join world: whether the rest is a join world again, and which one."""

from itertools import combinations
from math import comb

from mergerates.chances import one_time
from mergerates.checks import is_name, moment_taken, some_lot_taken
from mergerates.errors import BadLot, NotJoins, TooMany
from mergerates.joins import Joins
from mergerates.labels import all_partings, joined_all, traced
from mergerates.splits import least_broken, splits_of
from mergerates.tracing import join_of_traces, trace_of_join

MOST_TUPLES = 4000


def is_again(j, names):
    """True if the two lots of each split of these names meet without memory."""
    return all([least_broken(j, first, second) is not None for first, second in splits_of(names)])


def stays_joins(j, lot):
    """True if the trace on the lot is joins again."""
    return is_again(j, some_lot_taken(lot, j.size))


def first_failing(strokes, sizes, names):
    """The first tuple of so many strokes through whose join the trace does not go, None if there is none."""
    for size in range(1, sizes + 1):
        for chosen in combinations(strokes, size):
            if trace_of_join(chosen, names) != join_of_traces(chosen, names):
                return chosen
    return None


def failing_strokes(j, lot):
    """The fewest strokes through whose join the trace on the lot does not go, None if there are none."""
    names = some_lot_taken(lot, j.size)
    strokes = [x for x, _ in j.strokes()]
    sizes = j.size - len(names) + 1
    many = sum([comb(len(strokes), size) for size in range(1, sizes + 1)])
    if many > MOST_TUPLES:
        raise TooMany(many)
    return first_failing(strokes, sizes, names)


def rest_joins(j, lot):
    """The join world of the names of the lot, which become 0, 1, .. in ascending order."""
    names = some_lot_taken(lot, j.size)
    if not is_again(j, names):
        raise NotJoins(joined_all(failing_strokes(j, names)))
    weights = {y: 0 for y in all_partings(len(names))}
    for x, weight in j.strokes():
        weights[traced(x, names)] += weight
    told = list(weights.values())
    # At singles stand the strokes that join no names of the lot.
    told[-1] = 0
    return Joins(len(names), told)


def may_leave(j, z):
    """True if the trace on all names but z is joins again."""
    if not is_name(z, j.size):
        raise BadLot(0)
    return stays_joins(j, [name for name in range(j.size) if name != z])


def leavable(j):
    """The names that may be left out, ascending."""
    if j.size == 1:
        return ()
    return tuple([z for z in range(j.size) if may_leave(j, z)])


def traced_chances(j, lot, u):
    """The Chances of the trace on the lot at u."""
    moment = moment_taken(u)
    names = some_lot_taken(lot, j.size)
    return one_time(j, moment).trace_on(names)
