"""The twin of a row: the one row of lots of evenly many names that two colours cannot tell from it."""

from math import comb

from mergerates.amounts import reduced, summed
from mergerates.checks import check_within, is_integer
from mergerates.errors import BadNumber
from mergerates.halves import all_even_lots, halves, halves_from_cuts
from mergerates.labels import all_partings, lot_label

MOST_PART = 12


def even_lot_row(n, told):
    """The row of even lots that has these halves, fractions."""
    found = {}
    # Larger lots first: the half at a lot is told by the numbers at the lots that hold it.
    for lot, (top, bottom) in list(zip(all_even_lots(n), told))[::-1]:
        larger = [big for big in found if all([name in big for name in lot])]
        above = [(-found[big][0], found[big][1] << (len(big) - 1)) for big in larger]
        left, under = summed([(top, bottom), *above])
        found[lot] = reduced(left << (len(lot) - 1), under)
    number_at = {lot_label(lot, n): found[lot] for lot in found}
    return tuple([number_at.get(x, (0, 1)) for x in all_partings(n)])


def twin(n, row):
    """The row of even lots that is alike to the row to two colours."""
    return even_lot_row(n, halves(n, row))


def twin_from_cuts(n, numbers):
    """The row of even lots with these numbers as its exits at the cuts."""
    return even_lot_row(n, halves_from_cuts(n, numbers))


def twin_number(size, part):
    """The number of the twin of one lot of this size at an even lot of this part of its names."""
    check_within(size, 2, MOST_PART, "size")
    if not is_integer(part) or part % 2 != 0 or not 2 <= part <= size:
        raise BadNumber("part")
    # All terms of the sum of [109], times the power of 2 that makes them integers.
    terms = {}
    for m in range(size - size % 2, part - 1, -2):
        terms[m] = 1 - sum([comb(size - m, h - m) * terms[h] for h in terms])
    return reduced(terms[part] << (part - 1), 1 << (size - 1))


def has_true_twin(n, row):
    """True if no number of the twin is below 0."""
    return all([top >= 0 for top, _ in twin(n, row)])


def same_to_two(n, row, other):
    """True if the two rows have the same halves."""
    first = halves(n, row)
    return first == halves(n, other)
