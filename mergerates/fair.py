"""Fair worlds: those in which each so many names merge without memory of the others."""

from itertools import combinations

from mergerates.checks import check_within, parting_on, some_lot_taken
from mergerates.errors import NotFair
from mergerates.labels import all_partings, all_singles, block_count, subsets, traced
from mergerates.rows import numbers_by_shape


def rates_over(world, names, p):
    """The list of (y, rate) of the partings to which the trace on the names goes over from p, ascending."""
    stands = traced(p, names)
    rates = {}
    for r, rate in world.from_here(p):
        y = traced(r, names)
        if y != stands:
            rates[y] = rates.get(y, 0) + rate
    return [(y, rates[y]) for y in sorted(rates)]


def least_unlike(entries):
    """Of entries (parting, mark, value) in order the least two partings with one mark and different values, or None."""
    first_of = {}
    pairs = []
    for p, mark, value in entries:
        first, expected = first_of.setdefault(mark, (p, value))
        # Where any two partings of one mark differ, some one differs from the first of them.
        if value != expected:
            pairs.append((first, p))
    return min(pairs, default=None)


def unlike_pair(world, names):
    """The least two partings with one trace from which it goes over at different rates, or None."""
    every = all_partings(world.size)
    return least_unlike([(p, traced(p, names), rates_over(world, names, p)) for p in every])


def going(world, lot, p):
    """The list of (y, rate) at which the trace on the lot goes over from p, ascending."""
    here = parting_on(world.size, p)
    return rates_over(world, some_lot_taken(lot, world.size), here)


def is_fair(world, m):
    """True if the rates at which the trace on each lot of m names goes over are told by this trace."""
    return unfair_at(world, m) is None


def fair_to(world):
    """The greatest m below the number of names to which the world is fair, 1 for one name."""
    for m in range(world.size - 1, 1, -1):
        if is_fair(world, m):
            return m
    return 1


def unfair_at(world, m):
    """None if the world is fair to m, else the first lot at which it fails and two partings that tell it."""
    check_within(m, 1, world.size, "m")
    for lot in subsets(world.size, m):
        pair = unlike_pair(world, lot)
        if pair is not None:
            return (lot, *pair)
    return None


def row_seen(world, m):
    """The count row that any m blocks see."""
    check_within(m, 2, world.size - 1, "m")
    found = unfair_at(world, m)
    if found is not None:
        raise NotFair(found[1])
    first = all_partings(world.size)[-1]
    rates = {y: rate for y, rate in rates_over(world, all_singles(m), first)}
    return numbers_by_shape(m, [rates.get(y, 0) for y in all_partings(m)])


def pair_rate(world):
    """The rate at which any two blocks come together, None if it is not one rate."""
    found = {}
    for p in all_partings(world.size):
        firsts = [p.index(block) for block in range(block_count(p))]
        for a, b in combinations(firsts, 2):
            found[sum([rate for r, rate in world.from_here(p) if r[a] == r[b]])] = True
    if len(found) > 1:
        return None
    return max(list(found), default=0)
