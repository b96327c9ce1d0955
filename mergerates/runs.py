"""Runs of a world: where they stay and for how long, what they meet, and along which chains they go."""

from mergerates.amounts import reduced, summed
from mergerates.checks import check_names, listed_partings, parting_on, partings_on
from mergerates.errors import NotFiner, TooMany
from mergerates.labels import all_partings, all_singles, is_finer
from mergerates.worlds import reached

MOST_CHAINS = 5000


def first_of(world, start):
    """The parting at which runs begin, not checked yet."""
    return all_singles(world.size) if start is None else start


def chances_met(world, first):
    """For each parting that is reached from first the chance of being met."""
    arrivals = {first: [(1, 1)]}
    found = {}
    # Moves lead to earlier partings: going backwards, all arrivals at a parting are known before it comes.
    for p in sorted(reached(world, first), reverse=True):
        top, bottom = summed(arrivals[p])
        found[p] = (top, bottom)
        many = world.total_from(p)
        for r, rate in world.from_here(p):
            arrivals.setdefault(r, []).append((top * rate, bottom * many))
    return found


def time_at(world, p, chance):
    """The mean time at a parting that is met with this chance above 0, None at an end."""
    if world.is_end(p):
        return None
    top, bottom = chance
    return reduced(top, bottom * world.total_from(p))


def stays(world, start=None, *, inside=None):
    """The table of the mean times spent at each parting, only before BELOW(inside) is left if that is given."""
    # All partings are finer than whole: it stands for no limit.
    top = (0,) * world.size if inside is None else inside
    first, limit = partings_on(world.size, first_of(world, start), top)
    if not is_finer(first, limit):
        raise NotFiner(-1)
    met = chances_met(world, first)
    # A run never comes back below the limit, so all its time there is spent before it leaves.
    return tuple([time_at(world, r, met[r]) if r in met and is_finer(r, limit) else (0, 1)
                  for r in all_partings(world.size)])


def meets(world, start=None):
    """The table of the chances of being met."""
    first = parting_on(world.size, first_of(world, start))
    met = chances_met(world, first)
    return tuple([met.get(r, (0, 1)) for r in all_partings(world.size)])


def chain_count(world, first):
    """How many chains along moves lead from first to an end."""
    counts = {}
    for p in reached(world, first):
        counts[p] = 1 if world.is_end(p) else sum([counts[r] for r, _ in world.from_here(p)])
    return counts[first]


def chains_from(world, p):
    """The list of all chains along moves from p to an end, ascending."""
    if world.is_end(p):
        return [(p,)]
    return [(p, *rest) for r, _ in world.from_here(p) for rest in chains_from(world, r)]


def chains(world, start=None):
    """All chains along moves from start to an end, ascending, one after the other."""
    first = parting_on(world.size, first_of(world, start))
    many = chain_count(world, first)
    if many > MOST_CHAINS:
        raise TooMany(many)
    for chain in chains_from(world, first):
        yield chain


def chain_taken(world, chain):
    """The partings of a chain as tuples."""
    taken = listed_partings(chain)
    for p in taken:
        check_names(p, world.size)
    for place in range(1, len(taken)):
        if taken[place - 1] == taken[place] or not is_finer(taken[place - 1], taken[place]):
            raise NotFiner(place)
    return taken


def chain_chance(world, chain):
    """The chance that the run from the first parting of the chain goes along it."""
    taken = chain_taken(world, chain)
    top = 1
    bottom = 1
    for p, r in zip(taken, taken[1:]):
        rate = world(p, r)
        if rate == 0:
            return (0, 1)
        top = top * rate
        bottom = bottom * world.total_from(p)
    return reduced(top, bottom)
