"""Steady partings: those from below which a run leaves at one and the same rate."""

from mergerates.checks import parting_on, parting_taken, partings_on
from mergerates.errors import NotFiner
from mergerates.labels import all_partings, all_singles, block_count, is_finer
from mergerates.leaving import leaving_time


def finer_than(t):
    """The list of all partings finer than t, ascending, t included."""
    taken = parting_taken(t)
    return [p for p in all_partings(len(taken)) if is_finer(p, taken)]


def is_steady(world, t):
    """True if the exit at t is the same from all partings finer than t."""
    return unsteady_pair(world, t) is None


def unsteady_pair(world, t):
    """None if t is steady, else t and the least finer parting with another exit at t."""
    taken = parting_on(world.size, t)
    level = world.total_from(taken)
    for p in finer_than(taken):
        if world.exit_from(p, taken) != level:
            return (taken, p)
    return None


def steady_partings(world):
    """The list of all steady partings, ascending."""
    return [t for t in all_partings(world.size) if is_steady(world, t)]


def steady_to(world):
    """The greatest q such that all partings of at most q blocks are steady."""
    steady = steady_partings(world)
    unsteady = [block_count(t) for t in all_partings(world.size) if t not in steady]
    return min(unsteady, default=world.size + 1) - 1


def held_time(world, t, start):
    """The mean time until the run from start is no longer below t, None if it may stay there."""
    taken, first = partings_on(world.size, t, start)
    if not is_finer(first, taken):
        raise NotFiner(-1)
    return leaving_time(world, finer_than(taken), first)


def breaking_table(world):
    """The table of the exits from singles."""
    first = all_singles(world.size)
    return tuple([world.exit_from(first, t) for t in all_partings(world.size)])
