"""Rows of rates, and what a number of colours can tell of them by their exits."""

from mergerates.amounts import on_one_bottom, reduced, summed
from mergerates.checks import check_size, check_within, parting_on, table_taken
from mergerates.errors import BadTable
from mergerates.labels import all_partings, block_count, is_finer, mobius, viewed


def check_colours(b, q):
    check_size(b, "b")
    check_within(q, 1, b, "q")


def row_taken(b, row):
    """The list of the fractions of a row on b names."""
    taken = table_taken(b, row)
    last = len(taken) - 1
    if taken[last] != (0, 1):
        raise BadTable(last)
    return taken


def coloured(b, q):
    """The partings of b names that q colours can tell, those of at most q blocks, ascending."""
    return [t for t in all_partings(b) if block_count(t) <= q]


def numbers_leaving(numbers, b, t):
    """The numbers of a row at the partings that are not finer than t."""
    return [number for x, number in zip(all_partings(b), numbers) if not is_finer(x, t)]


def exits_of_integers(b, numbers, q):
    """For each parting of at most q blocks the exit of a row of integers, ascending."""
    return {t: sum(numbers_leaving(numbers, b, t)) for t in coloured(b, q)}


def telling_partings(b, numbers, q):
    """The partings of at most q blocks at which a row of integers has an exit other than 0, ascending."""
    exit_at = exits_of_integers(b, numbers, q)
    return [t for t in exit_at if exit_at[t] != 0]


def row_exit(b, row, t):
    """The sum of the numbers of the row at the partings that are not finer than t."""
    check_size(b, "b")
    limit = parting_on(b, t)
    return summed(numbers_leaving(row_taken(b, row), b, limit))


def differences_taken(b, row, other):
    """The differences of two rows, integers on one bottom, which does not matter where they are 0."""
    first = row_taken(b, row)
    second = row_taken(b, other)
    tops, _ = on_one_bottom([*first, *second])
    return [top - tops[place + len(first)] for place, top in enumerate(tops[:len(first)])]


def alike_to_colours(b, row, other, q):
    """True if the two rows have the same exits at all partings of at most q blocks."""
    return unlike_colouring(b, row, other, q) is None


def unlike_colouring(b, row, other, q):
    """The least parting of at most q blocks at which the two rows have different exits, or None."""
    check_colours(b, q)
    found = telling_partings(b, differences_taken(b, row, other), q)
    return found[0] if len(found) > 0 else None


def seen_to(b, row, q):
    """The exits of the row at the partings of at most q blocks, in ascending order of these."""
    check_colours(b, q)
    tops, bottom = on_one_bottom(row_taken(b, row))
    exit_at = exits_of_integers(b, tops, q)
    return tuple([reduced(exit_at[t], bottom) for t in exit_at])


def first_unseen(b):
    """The row whose sums below are 1 at all partings but singles."""
    numbers = [-mobius(x) for x in all_partings(b)]
    return (*numbers[:-1], 0)


def unseen_at(b, t):
    """The row whose sums below are 1 at t alone."""
    return tuple([mobius(viewed(t, x)) if is_finer(t, x) else 0 for x in all_partings(b)])


def unseen_rows(b, q):
    """The rows of which, with factors, any difference of two rows alike to q colours is the sum."""
    check_colours(b, q)
    if q == b:
        return []
    return [first_unseen(b), *[unseen_at(b, t) for t in all_partings(b) if q < block_count(t) < b]]
