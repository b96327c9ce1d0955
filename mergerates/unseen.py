"""What few names tell of rows, and rows of which they tell nothing."""

from mergerates.checks import check_size, check_within, parting_on
from mergerates.colours import differences_taken
from mergerates.labels import (
    all_partings, all_singles, block_count, is_finer, lot_label, mobius, subsets, traced, viewed,
)
from mergerates.lotrows import joining_lots, sign_between
from mergerates.partings import touched
from mergerates.rows import numbers_by_shape


def check_names_told(b, m):
    check_size(b, "b")
    check_within(m, 1, b, "m")


def traces_to_nothing(b, differences, lot):
    """True if a row of integers has the trace 0 on the lot."""
    sums = {}
    for x, number in zip(all_partings(b), differences):
        y = traced(x, lot)
        sums[y] = sums.get(y, 0) + number
    return all([sums[y] == 0 for y in sums if y != all_singles(len(lot))])


def alike_to_names(b, row, other, m):
    """True if the two rows have the same trace on each lot of at most m names."""
    check_names_told(b, m)
    differences = differences_taken(b, row, other)
    return all([traces_to_nothing(b, differences, lot) for lot in subsets(b, m)])


def unseen_at_parting(b, t):
    """The row whose sums above are 1 at t and 0 at all others but singles."""
    numbers = [mobius(viewed(p, t)) if is_finer(p, t) else 0 for p in all_partings(b)]
    return (*numbers[:-1], 0)


def unseen_by_names(b, m):
    """The list of the rows unseen by m names, one for each parting that touches more of them, ascending."""
    check_names_told(b, m)
    return [unseen_at_parting(b, t) for t in all_partings(b) if len(touched(t)) > m]


def unseen_at_lot(b, lot):
    """The row of lots whose numbers are 1 and -1 by turns at the lots inside this one."""
    number_at = {lot_label(part, b): sign_between(lot, part) for part in joining_lots(lot)}
    return tuple([number_at.get(x, 0) for x in all_partings(b)])


def lots_unseen(b, m):
    """The list of the rows of lots unseen by m names, one for each lot of more of them, those of few names first."""
    check_names_told(b, m)
    return [unseen_at_lot(b, lot) for size in range(max(m + 1, 2), b + 1) for lot in subsets(b, size)]


def names_matter(world, p):
    """True if the row at p is not by counts."""
    here = parting_on(world.size, p)
    return numbers_by_shape(block_count(here), world.row_at(here)) is None
