"""Rows by counts: count rows, their traces and totals, and the worlds that they make."""

from mergerates.amounts import summed
from mergerates.chances import sums_at
from mergerates.checks import (
    as_fraction, check_count, check_size, check_within, is_count, is_list, is_share, some_lot_taken,
)
from mergerates.colours import row_taken
from mergerates.errors import BadTable
from mergerates.labels import all_partings, all_singles, block_count, raised, traced
from mergerates.partings import shape_of
from mergerates.worlds import World


def check_counted(value, word):
    """Shapes are told for two names at least."""
    check_within(value, 2, 6, word)


def all_shapes(m):
    """The shapes of all partings of m names but singles, ascending."""
    found = {shape_of(x): True for x in all_partings(m)[:-1]}
    return sorted(found)


def check_row_length(m, numbers):
    if not is_list(numbers) or len(numbers) != len(all_shapes(m)):
        raise BadTable(-1)


def check_shares(numbers):
    for place, item in enumerate(numbers):
        if not is_share(item):
            raise BadTable(place)


def count_row_taken(m, numbers):
    """The fractions of a count row on m names."""
    check_row_length(m, numbers)
    check_shares(numbers)
    return tuple([as_fraction(item) for item in numbers])


def counts_taken(m, numbers):
    """The integers of a count row on m names."""
    check_row_length(m, numbers)
    for place, item in enumerate(numbers):
        if not is_count(item):
            raise BadTable(place)
    return tuple(numbers)


def spread_row(m, numbers, nothing):
    """The row by counts of numbers for the shapes, with nothing at singles."""
    number_of = {shape: number for shape, number in zip(all_shapes(m), numbers)}
    return [number_of.get(shape_of(x), nothing) for x in all_partings(m)]


def numbers_by_shape(m, row):
    """The number of each shape in a row of m names, None if some shape has two."""
    number_of = {}
    for x, number in zip(all_partings(m)[:-1], row):
        if number_of.setdefault(shape_of(x), number) != number:
            return None
    return tuple([number_of[shape] for shape in sorted(number_of)])


def traced_row(b, numbers, lot):
    """The trace of a row of fractions on the lot."""
    sums = sums_at(len(lot), [(traced(x, lot), number) for x, number in zip(all_partings(b), numbers)])
    # Singles holds what does not lead on among the names of the lot.
    sums[-1] = (0, 1)
    return tuple(sums)


def traced_numbers(m, numbers, k):
    """The trace on k names of a count row of fractions."""
    row = spread_row(m, numbers, (0, 1))
    return numbers_by_shape(k, traced_row(m, row, all_singles(k)))


def traced_counts(m, numbers, k):
    """The trace on k names of a count row of integers."""
    return tuple([top for top, _ in traced_numbers(m, [(number, 1) for number in numbers], k)])


def total_of(m, numbers):
    """The total of a count row of fractions."""
    return summed(spread_row(m, numbers, (0, 1)))


def shapes(m):
    """The list of the shapes of m names, ascending."""
    check_counted(m, "m")
    return all_shapes(m)


def spread(m, numbers):
    """The row by counts of a count row."""
    check_counted(m, "m")
    return tuple(spread_row(m, count_row_taken(m, numbers), (0, 1)))


def numbers_of(m, row):
    """The numbers of a row by counts, one for each shape; None if the row is not by counts."""
    check_counted(m, "m")
    return numbers_by_shape(m, row_taken(m, row))


def trace_row(b, row, lot):
    """The trace of a row of b names on the lot."""
    check_size(b, "b")
    names = some_lot_taken(lot, b)
    return traced_row(b, row_taken(b, row), names)


def trace_numbers(m, numbers, k):
    """The trace of the count row on k names."""
    check_counted(m, "m")
    check_within(k, 2, m, "k")
    return traced_numbers(m, count_row_taken(m, numbers), k)


def lots_numbers(m, rates):
    """The count row of the row one lot at a time with these rates at lots of 2, 3, .. names."""
    check_counted(m, "m")
    if not is_list(rates) or len(rates) != m - 1:
        raise BadTable(-1)
    check_shares(rates)
    found = []
    for first, *rest in all_shapes(m):
        alone = all([size == 1 for size in rest])
        found.append(as_fraction(rates[first - 2]) if alone else (0, 1))
    return tuple(found)


def row_total(m, numbers):
    """The total of the count row."""
    check_counted(m, "m")
    return total_of(m, count_row_taken(m, numbers))


def totals(m, numbers):
    """The totals of the traces of the count row on 2, 3, .., m names."""
    check_counted(m, "m")
    taken = count_row_taken(m, numbers)
    return tuple([total_of(k, traced_numbers(m, taken, k)) for k in range(2, m + 1)])


def counted_moves(size, numbers):
    """The moves by which the row at each parting of k >= 2 blocks is the trace on k names."""
    row_of = {b: spread_row(b, traced_counts(size, numbers, b), 0) for b in range(2, size + 1)}
    moves = []
    for p in all_partings(size)[1:]:
        k = block_count(p)
        moves.extend([(p, raised(p, x), rate) for x, rate in zip(all_partings(k)[:-1], row_of[k])])
    return moves


class Counts(World):
    """The counts world of a count row of integers."""

    KIND = "counts"

    def __init__(self, size, numbers, *, times=1):
        check_counted(size, "size")
        check_count(times, "times")
        taken = tuple([number * times for number in counts_taken(size, numbers)])
        super().__init__(size, counted_moves(size, taken))
        self.numbers = taken

    def numbers_at(self, b):
        """The trace of the numbers on b names, integers."""
        check_within(b, 2, self.size, "b")
        return traced_counts(self.size, self.numbers, b)
