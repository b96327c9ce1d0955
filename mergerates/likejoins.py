"""Likeness of a world to the joins of its first rates, and worlds that are one lot at a time."""

from mergerates.checks import check_within, parting_on
from mergerates.colours import alike_to_colours, telling_partings
from mergerates.labels import all_partings, all_singles, block_count, block_names, joined, places, raised, viewed
from mergerates.worlds import World


def joined_row(world, p):
    """The row at p of the joins of the first rates."""
    here = parting_on(world.size, p)
    place_of = places(block_count(here))
    numbers = [0 for _ in place_of]
    for x, rate in world.from_here(all_singles(world.size)):
        numbers[place_of[viewed(here, joined(here, x))]] += rate
    # Singles holds what would not lead on from p.
    numbers[-1] = 0
    return tuple(numbers)


def like_joins_at(world, p):
    """True if the row at p is the joined row at p."""
    return world.row_at(p) == joined_row(world, p)


def joins_here(world, p, q):
    """True if the row at p and the joined row at p are alike to q colours, or to all that p has blocks for."""
    check_within(q, 1, world.size, "q")
    here = parting_on(world.size, p)
    b = block_count(here)
    return alike_to_colours(b, world.row_at(here), joined_row(world, here), min(q, b))


def first_joins(world):
    """The world in which the first rates lead on from all partings by joins."""
    moves = []
    for p in all_partings(world.size):
        seen = all_partings(block_count(p))
        moves.extend([(p, raised(p, x), rate) for x, rate in zip(seen, joined_row(world, p)) if rate > 0])
    return World(world.size, moves)


def colours_at(world, p):
    """The greatest number of colours, up to the blocks of p, to which the row and the joined row are alike."""
    b = block_count(p)
    differences = [rate - like for rate, like in zip(world.row_at(p), joined_row(world, p))]
    told = [block_count(t) for t in telling_partings(b, differences, b)]
    return min(told, default=b + 1) - 1


def least_colours(world):
    """For each parting, ascending, the greatest number of colours to which the two rows are alike."""
    return tuple([colours_at(world, p) for p in all_partings(world.size)])


def is_lot_parting(x):
    return len([block for block in block_names(x) if len(block) > 1]) <= 1


def not_one_lot(world):
    """The least parting from which a move joins more than one lot of blocks, or None."""
    for p, r, _ in world.moves:
        if not is_lot_parting(viewed(p, r)):
            return p
    return None


def is_one_lot(world):
    """True if every move joins one lot of blocks."""
    return not_one_lot(world) is None
