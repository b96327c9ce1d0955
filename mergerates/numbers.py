"""The number of blocks alone: whether it is without memory, its times, and the kinds of pairs."""

from mergerates.amounts import summed
from mergerates.checks import parting_on
from mergerates.fair import least_unlike
from mergerates.labels import all_partings, block_count
from mergerates.runs import stays
from mergerates.together import pairs_of
from mergerates.worlds import reached


def rates_to_numbers(world, p):
    """For k = 1, 2, .., below the blocks of p, the rate from p to k blocks."""
    rates = [0 for _ in range(block_count(p) - 1)]
    for r, rate in world.from_here(p):
        rates[block_count(r) - 1] += rate
    return tuple(rates)


def number_rates(world, p):
    """For k = 1, 2, .., below the blocks of p, the sum of the rates from p to partings of k blocks."""
    return rates_to_numbers(world, parting_on(world.size, p))


def number_memoryless(world):
    """True if the number of blocks tells at which rates it goes on."""
    return number_pair(world) is None


def number_pair(world):
    """The least two reached partings of equally many blocks with different rates, None if there are none."""
    return least_unlike([(p, block_count(p), rates_to_numbers(world, p)) for p in reached(world)])


def pairs_kind(j):
    """The kind of a join world of pairs."""
    firsts = [a for a, _ in pairs_of(j)]
    weights = [weight for _, weight in j.strokes()]
    many = len(weights)
    if many == 0:
        return "none"
    if weights.count(weights[0]) < many:
        return "other"
    # Each pair that closes no ring makes one block less.
    lacking = block_count(j.top) - (j.size - many)
    if lacking == 0:
        return "forest"
    # One ring closes once, and each of its names has two neighbours.
    return "ring" if lacking == 1 and all([firsts.count(a) == 2 for a in firsts]) else "other"


def number_stays(world):
    """For k = 1, 2, .. the mean time with k blocks in runs from singles, None if they may end there."""
    times = {}
    for p, time in zip(all_partings(world.size), stays(world)):
        times.setdefault(block_count(p), []).append(time)
    return tuple([None if None in times[k] else summed(times[k]) for k in sorted(times)])
