"""Breaking rates: at which rates strokes come that are not finer than a parting, and weights told by them."""

from mergerates.checks import check_size, table_taken
from mergerates.labels import all_partings
from mergerates.tables import told_below


def breaking_rates(j):
    """The table of the breaking rates."""
    return tuple([j.breaking(t) for t in all_partings(j.size)])


def weights_from(n, table):
    """The table of the weights that would break each parting at the rate that the table has at it."""
    weights = [(-top, bottom) for top, bottom in told_below(n, table)]
    # Singles has no weight: no stroke joins nothing.
    return (*weights[:-1], (0, 1))


def table_comes(n, table):
    """True if the table is the one of the breaking rates of weights that are not below 0."""
    return wanting_at(n, table) is None


def wanting_at(n, table):
    """Whole if the table is not 0 there, else the least parting with a weight below 0, or None."""
    check_size(n, "n")
    taken = table_taken(n, table)
    every = all_partings(n)
    if taken[0] != (0, 1):
        return every[0]
    below = [r for r, weight in zip(every, weights_from(n, taken)) if weight[0] < 0]
    return below[0] if len(below) > 0 else None
