"""Worlds made of a world: seen from a parting, below a parting, with other names."""

from mergerates.checks import all_names_taken, parting_on
from mergerates.labels import block_count, is_finer, rearranged, viewed
from mergerates.worlds import World


def seen_world(world, p):
    """The world on the blocks of p."""
    here = parting_on(world.size, p)
    moves = [(viewed(here, x), viewed(here, r), rate) for x, r, rate in world.moves if is_finer(here, x)]
    return World(block_count(here), moves)


def below_world(world, t):
    """The world with the moves to partings finer than t alone."""
    limit = parting_on(world.size, t)
    return World(world.size, [(p, r, rate) for p, r, rate in world.moves if is_finer(r, limit)])


def renamed_world(world, names):
    """The world in which each name has got a new name, name i the name names[i]."""
    taken = all_names_taken(names, world.size)
    moves = [(rearranged(p, taken), rearranged(r, taken), rate) for p, r, rate in world.moves]
    return World(world.size, moves)
