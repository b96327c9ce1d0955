"""Partings: tuples of labels that tell which names stand in one block."""

from mergerates.checks import (
    MOST_NAMES, alike_partings, all_names_taken, check_names, check_size, check_within, is_integer, is_list,
    is_name, lot_taken, parting_taken, some_lot_taken,
)
from mergerates.errors import BadLot, BadParting, NotFiner
from mergerates.labels import (
    all_partings, all_singles, block_count, block_names, coarser, is_finer, joined, joined_all, lot_label, raised,
    rearranged, relabelled, subsets, traced, viewed,
)


def singles(n):
    """The parting in which all names are alone."""
    check_size(n, "n")
    return all_singles(n)


def whole(n):
    """The parting in which all names are together."""
    check_size(n, "n")
    return (0,) * n


def lot_parting(lot, n):
    """The parting with the names of the lot in one block and all others alone."""
    check_size(n, "n")
    return lot_label(lot_taken(lot, n), n)


def parting_of(marks):
    """The parting in which names with equal marks are together."""
    if not is_list(marks) or len(marks) == 0:
        raise BadParting(-1)
    for place, mark in enumerate(marks):
        if place == MOST_NAMES or not is_integer(mark):
            raise BadParting(place)
    return relabelled(marks)


def partings(n):
    """The list of all partings of n names, ascending."""
    check_size(n, "n")
    return all_partings(n)


def count_of(p):
    """The number of blocks."""
    return block_count(parting_taken(p))


def blocks_of(p):
    """The blocks in the order of their labels."""
    return tuple([tuple(block) for block in block_names(parting_taken(p))])


def shape_of(p):
    """The sizes of the blocks, from the largest to the smallest."""
    sizes = [len(block) for block in block_names(parting_taken(p))]
    return tuple(sorted(sizes, reverse=True))


def touched(p):
    """The lot of the names that are not alone."""
    taken = parting_taken(p)
    return tuple([name for name, label in enumerate(taken) if taken.count(label) > 1])


def together(p, a, b):
    """True if the names a and b are in one block."""
    taken = parting_taken(p)
    if not is_name(a, len(taken)):
        raise BadLot(0)
    if not is_name(b, len(taken)):
        raise BadLot(1)
    return taken[a] == taken[b]


def finer(p, r):
    """True if names together in p are together in r."""
    fine, coarse = alike_partings(p, r)
    return is_finer(fine, coarse)


def join(p, r):
    """The finest parting coarser than both."""
    first, second = alike_partings(p, r)
    return joined(first, second)


def meet(p, r):
    """The coarsest parting finer than both."""
    first, second = alike_partings(p, r)
    return relabelled(list(zip(first, second)))


def join_all(p, *rest):
    """The join of p and any number of further partings."""
    return joined_all(alike_partings(p, *rest))


def trace(p, lot):
    """The trace of p on the lot, whose names become 0, 1, .. in ascending order."""
    taken = parting_taken(p)
    return traced(taken, some_lot_taken(lot, len(taken)))


def seen_from(p, r):
    """The parting of the blocks of p in which those of one block of r are together."""
    fine, coarse = alike_partings(p, r)
    if not is_finer(fine, coarse):
        raise NotFiner(-1)
    return viewed(fine, coarse)


def lifted(p, x):
    """The parting that is x when it is seen from p."""
    base = parting_taken(p)
    blocks = parting_taken(x)
    check_names(blocks, block_count(base))
    return raised(base, blocks)


def renamed(p, names):
    """The parting in which names[i] and names[j] are together if i and j are in p."""
    taken = parting_taken(p)
    return rearranged(taken, all_names_taken(names, len(taken)))


def coarser_than(p):
    """The list of all partings coarser than p, ascending, p included."""
    return coarser(parting_taken(p))


def lots_of(n, size):
    """The lots of exactly size names below n, ascending, one after the other."""
    check_size(n, "n")
    check_within(size, 0, n, "size")
    for lot in subsets(n, size):
        yield lot
