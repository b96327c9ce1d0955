"""Families of partings: their exits, and the mean times until a run leaves them."""

from mergerates.amounts import reduced, summed
from mergerates.checks import check_names, is_list, listed_parting, parting_on, parting_taken
from mergerates.errors import BadParting, NotInside


def different_partings(family):
    """The partings of a family as tuples, in their order."""
    if not is_list(family) or len(family) == 0:
        raise BadParting(-1)
    found = {}
    for place, p in enumerate(family):
        taken = listed_parting(p, place)
        if taken in found:
            raise BadParting(place)
        found[taken] = True
    return list(found)


def check_all_names(rest, size):
    for p in rest:
        check_names(p, size)


def family_taken(world, family):
    """The partings of a family, all of them on the names of the world."""
    taken = different_partings(family)
    check_all_names(taken, world.size)
    return taken


def check_inside(p, family):
    if p not in family:
        raise NotInside(-1)


def exits_by_parting(world, family):
    """For each parting of the family its exit."""
    inside = {p: True for p in family}
    return {p: sum([rate for r, rate in world.from_here(p) if r not in inside]) for p in family}


def moves_inside(world, p, known):
    """The moves (r, rate) from p to partings that are known."""
    return [(r, rate) for r, rate in world.from_here(p) if r in known]


def times_by_parting(world, family):
    """For each parting of the family its leaving time."""
    times = {}
    # Moves lead to earlier partings: those of the family are known before the parting itself comes.
    for p in sorted(family):
        inner = moves_inside(world, p, times)
        if world.is_end(p) or any([times[r] is None for r, _ in inner]):
            times[p] = None
        else:
            top, bottom = summed([(1, 1), *[(times[r][0] * rate, times[r][1]) for r, rate in inner]])
            times[p] = reduced(top, bottom * world.total_from(p))
    return times


def bounds_by_parting(world, family):
    """For each parting of the family the least and the greatest exit that is reached from it inside."""
    outside = exits_by_parting(world, family)
    bounds = {}
    for p in sorted(family):
        near = [bounds[r] for r, _ in moves_inside(world, p, bounds)]
        least = min([outside[p], *[low for low, _ in near]])
        greatest = max([outside[p], *[high for _, high in near]])
        bounds[p] = (least, greatest)
    return bounds


def exits(world, family):
    """The exits of the partings of the family, in its order."""
    taken = family_taken(world, family)
    outside = exits_by_parting(world, taken)
    return tuple([outside[p] for p in taken])


def memoryless(world, family):
    """True if all partings of the family have the same exit."""
    found = exits(world, family)
    return found.count(found[0]) == len(found)


def leaving_time(world, family, start):
    """The mean time until the run from start has left the family, None if it may never leave it."""
    taken = different_partings(family)
    first = parting_taken(start)
    check_all_names([*taken, first], world.size)
    check_inside(first, taken)
    return times_by_parting(world, taken)[first]


class Clock:
    """The leaving times of one family from all its partings."""

    def __init__(self, world, family):
        taken = family_taken(world, family)
        self._size = world.size
        self._times = times_by_parting(world, taken)
        self._bounds = bounds_by_parting(world, taken)

    def __call__(self, p):
        """The leaving time from p."""
        here = parting_on(self._size, p)
        check_inside(here, self._times)
        return self._times[here]

    def level(self):
        """The leaving time if it is the same fraction from every parting of the family, else None."""
        found = list(self._times.values())
        return found[0] if found.count(found[0]) == len(found) else None

    def bounds(self, p):
        """The least and the greatest exit over the partings that are reached from p inside the family."""
        here = parting_on(self._size, p)
        check_inside(here, self._bounds)
        return self._bounds[here]
