"""First meetings: mean times until names are together, and by which moves they come together."""

from itertools import combinations

from mergerates.checks import is_list, is_name, parting_on, some_lot_taken, wrong_name
from mergerates.errors import BadLot
from mergerates.fair import rates_over
from mergerates.labels import all_partings, all_singles, block_count, is_finer, lot_label
from mergerates.leaving import leaving_time
from mergerates.worlds import reached


def all_apart(p, pairs):
    """True if no one of the pairs is together."""
    return all([p[a] != p[b] for a, b in pairs])


def time_apart(world, pairs, first):
    """The mean time until one of the pairs is together, in runs from a parting at which none is."""
    return leaving_time(world, [p for p in all_partings(world.size) if all_apart(p, pairs)], first)


def check_pair(n, a, b):
    if not is_name(a, n):
        raise BadLot(0)
    if not is_name(b, n) or b == a:
        raise BadLot(1)


def pair_time(world, a, b, start):
    """The mean time from start until the names a and b are together."""
    first = parting_on(world.size, start)
    check_pair(world.size, a, b)
    return (0, 1) if first[a] == first[b] else time_apart(world, [(a, b)], first)


def first_meeting(world, pairs):
    """The mean time from singles until one of the pairs is together."""
    if not is_list(pairs) or len(pairs) == 0:
        raise BadLot(-1)
    for place, pair in enumerate(pairs):
        if wrong_name(pair, world.size) is not None or len(pair) != 2:
            raise BadLot(place)
    return time_apart(world, pairs, all_singles(world.size))


def apart_time(world, lot):
    """The mean time from singles during which the names of the lot are all apart."""
    names = list(some_lot_taken(lot, world.size))
    if len(names) < 2:
        raise BadLot(-1)
    return time_apart(world, list(combinations(names, 2)), all_singles(world.size))


def lone_sums(world):
    """For each name the sum of the first rates at its lone pairs."""
    n = world.size
    rate_at = {r: rate for r, rate in world.from_here(all_singles(n))}
    found = []
    for x in range(n):
        found.append(sum([rate_at.get(lot_label((x, y), n), 0) for y in range(n) if y != x]))
    return tuple(found)


def merges_by_threes(goals):
    """True if the list of (trace, rate) holds nothing, or each trace with three names together, at one rate."""
    if len(goals) == 0:
        return True
    threes = [y for y in all_partings(4) if block_count(y) == 2 and y.count(0) != 2]
    rates = [rate for _, rate in goals]
    return [y for y, _ in goals] == threes and rates.count(rates[0]) == len(rates)


def three_first(world, a, b, c, d):
    """True if, as long as the four names are all apart, any three of them come together, at one rate."""
    place = wrong_name([a, b, c, d], world.size)
    if place is not None:
        raise BadLot(place)
    names = sorted([a, b, c, d])
    pairs = list(combinations(names, 2))
    return all([merges_by_threes(rates_over(world, names, p)) for p in reached(world) if all_apart(p, pairs)])


def joins_all(world, cut):
    """True if every move from a parting finer than the cut to one that is not leads to whole."""
    taken = parting_on(world.size, cut)
    return all([block_count(r) == 1 for p, r, _ in world.moves if is_finer(p, taken) and not is_finer(r, taken)])
