"""Tables: one number for each parting, their sums below and above, and counts of partings."""

from mergerates.amounts import summed
from mergerates.checks import alike_partings, check_size, check_within, parting_taken, table_taken
from mergerates.errors import NotFiner
from mergerates.labels import all_partings, block_count, block_names, is_finer, mobius, places, raised, viewed


def mu(p, r):
    """mu(p, r) of point [6]."""
    fine, coarse = alike_partings(p, r)
    if not is_finer(fine, coarse):
        raise NotFiner(-1)
    return mobius(viewed(fine, coarse))


def nested_places(n):
    """The tuples (place of p, place of r, mu(p, r)) for all p finer than r."""
    place_of = places(n)
    found = []
    for p in all_partings(n):
        for x in all_partings(block_count(p)):
            found.append((place_of[p], place_of[raised(p, x)], mobius(x)))
    return found


def gathered(numbers, triples):
    """At each place the sum of the numbers that the triples (from, to, factor) bring to it."""
    parts = [[] for _ in numbers]
    for start, end, factor in triples:
        top, bottom = numbers[start]
        parts[end].append((top * factor, bottom))
    return tuple([summed(pairs) for pairs in parts])


def sums_below(n, table):
    """The table with the sums over all finer partings."""
    check_size(n, "n")
    return gathered(table_taken(n, table), [(low, high, 1) for low, high, _ in nested_places(n)])


def sums_above(n, table):
    """The table with the sums over all coarser partings."""
    check_size(n, "n")
    return gathered(table_taken(n, table), [(high, low, 1) for low, high, _ in nested_places(n)])


def told_below(n, table):
    """The table whose sums below are the given table."""
    check_size(n, "n")
    return gathered(table_taken(n, table), nested_places(n))


def told_above(n, table):
    """The table whose sums above are the given table."""
    check_size(n, "n")
    return gathered(table_taken(n, table), [(high, low, factor) for low, high, factor in nested_places(n)])


def alone_count(p):
    return len([block for block in block_names(p) if len(block) == 1])


def counts_by_touch(n):
    """For k = 0 .. n the number of partings of n names that touch exactly k names."""
    check_size(n, "n")
    touches = [n - alone_count(p) for p in all_partings(n)]
    return tuple([touches.count(k) for k in range(n + 1)])


def without_alone(k):
    """The number of partings of k names that touch all of them."""
    check_within(k, 0, 6, "k")
    if k == 0:
        return 1
    return len([p for p in all_partings(k) if alone_count(p) == 0])


def colour_count(p, k):
    """The number of ways to give each block of p one of k colours."""
    check_within(k, 0, 50, "k")
    ways = 1
    for _ in range(block_count(parting_taken(p))):
        ways = ways * k
    return ways
