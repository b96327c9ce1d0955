"""What two colours tell of rows: rates at cuts, and halves at lots of evenly many names."""

from mergerates.amounts import reduced, summed
from mergerates.checks import amounts_taken, check_within, is_list, lot_taken, parting_taken
from mergerates.colours import numbers_leaving, row_taken
from mergerates.errors import BadLot, BadTable
from mergerates.labels import all_partings, block_count, subsets


def check_cut_size(n):
    check_within(n, 2, 6, "n")


def all_cuts(n):
    return [t for t in all_partings(n) if block_count(t) == 2]


def all_even_lots(n):
    """The lots of 2, 4 or 6 names, those of fewer names first."""
    return [lot for size in range(2, n + 1, 2) for lot in subsets(n, size)]


def is_even_at(x, names):
    """True if each block of x has an even number of the names."""
    labels = [x[name] for name in names]
    return all([labels.count(label) % 2 == 0 for label in labels])


def is_odd_in_first(lot, cut):
    """True if block 0 of the cut has an odd number of names of the lot."""
    return len([name for name in lot if cut[name] == 0]) % 2 == 1


def half_at(n, numbers, lot):
    """The half of a row of fractions at an even lot."""
    parts = []
    for x, (top, bottom) in zip(all_partings(n), numbers):
        if is_even_at(x, lot):
            parts.append((top, bottom << (n - block_count(x))))
    return summed(parts)


def numbers_taken(n, numbers):
    """The fractions for all cuts, or for all even lots, which are as many."""
    if not is_list(numbers) or len(numbers) != len(all_cuts(n)):
        raise BadTable(-1)
    return amounts_taken(numbers)


def cuts(n):
    """The list of all partings of two blocks, ascending."""
    check_cut_size(n)
    return all_cuts(n)


def even_lots(n):
    """The list of all lots of 2, 4 or 6 names, those of fewer names first."""
    check_cut_size(n)
    return all_even_lots(n)


def even_at(x, lot):
    """True if each block of x has an even number of names of the lot."""
    taken = parting_taken(x)
    return is_even_at(taken, lot_taken(lot, len(taken)))


def half(n, row, lot):
    """The half of the row at the even lot."""
    check_cut_size(n)
    names = lot_taken(lot, n)
    if names not in all_even_lots(n):
        raise BadLot(-1)
    return half_at(n, row_taken(n, row), names)


def halves(n, row):
    """The halves of the row at all even lots."""
    check_cut_size(n)
    numbers = row_taken(n, row)
    return tuple([half_at(n, numbers, lot) for lot in all_even_lots(n)])


def cut_rates(n, row):
    """The exits of the row at all cuts."""
    check_cut_size(n)
    numbers = row_taken(n, row)
    return tuple([summed(numbers_leaving(numbers, n, t)) for t in all_cuts(n)])


def cuts_from_halves(n, numbers):
    """The numbers for the cuts that belong to these numbers for the even lots."""
    check_cut_size(n)
    pairs = list(zip(all_even_lots(n), numbers_taken(n, numbers)))
    found = []
    for cut in all_cuts(n):
        found.append(summed([(top * 2, bottom) for lot, (top, bottom) in pairs if is_odd_in_first(lot, cut)]))
    return tuple(found)


def halves_from_cuts(n, numbers):
    """The numbers for the even lots that belong to these numbers for the cuts."""
    check_cut_size(n)
    pairs = list(zip(all_cuts(n), numbers_taken(n, numbers)))
    found = []
    for lot in all_even_lots(n):
        top, bottom = summed([(many if is_odd_in_first(lot, cut) else -many, part) for cut, (many, part) in pairs])
        found.append(reduced(top, bottom << (n - 1)))
    return tuple(found)
