"""Worlds that are told by few numbers: all at once, by the number of blocks, by counts."""

from mergerates.breaking import breaking_rates, table_comes, weights_from
from mergerates.checks import amounts_taken, check_size, is_list
from mergerates.errors import BadTable
from mergerates.labels import all_partings, all_singles, block_count
from mergerates.rows import numbers_by_shape


def all_at_once(world):
    """The rate at which the world merges all at once, None if it does not."""
    whole = (0,) * world.size
    rate = world(all_singles(world.size), whole)
    goals = [(whole, rate)] if rate > 0 else []
    told = [world.from_here(p) == goals for p in all_partings(world.size)[1:]]
    return rate if all(told) else None


def by_number(j):
    """The breaking rates for 1, 2, .. blocks, None if the number of blocks does not tell them."""
    rate_of = {}
    for t, rate in zip(all_partings(j.size), breaking_rates(j)):
        if rate_of.setdefault(block_count(t), rate) != rate:
            return None
    return tuple([rate_of[k] for k in sorted(rate_of)])


def table_by_number(n, numbers):
    """The table with the number for k blocks at each parting of k blocks."""
    if not is_list(numbers) or len(numbers) != n:
        raise BadTable(-1)
    taken = amounts_taken(numbers)
    return [taken[block_count(t) - 1] for t in all_partings(n)]


def number_weights(n, numbers):
    """The table of the weights whose breaking rates are the numbers for 1, 2, .. blocks."""
    check_size(n, "n")
    return weights_from(n, table_by_number(n, numbers))


def numbers_come(n, numbers):
    """True if the numbers are the breaking rates of weights that are not below 0."""
    check_size(n, "n")
    return table_comes(n, table_by_number(n, numbers))


def is_by_counts(world):
    """True if all rows are by counts, and those at partings of equally many blocks are equal."""
    row_of = {}
    for p in all_partings(world.size):
        b = block_count(p)
        row = world.row_at(p)
        if row_of.setdefault(b, row) != row or numbers_by_shape(b, row) is None:
            return False
    return True
