"""Rows of lots, with numbers at lot partings alone, and what three colours tell of them."""

from mergerates.amounts import on_one_bottom, reduced, summed
from mergerates.chances import sums_at
from mergerates.checks import amount_taken, as_fraction, check_within, is_amount, table_taken
from mergerates.colours import row_taken
from mergerates.errors import BadTable, NotOneLot
from mergerates.halves import check_cut_size
from mergerates.joins import check_entries, lot_of_entry
from mergerates.labels import all_partings, lot_label, places, relabelled
from mergerates.likejoins import is_lot_parting
from mergerates.splits import lots_within


def number_entry(entry, n, place):
    """The tuple (lot parting, number) that an entry (lot, number) at this place of a list is."""
    lot = lot_of_entry(entry, n, place)
    if not is_amount(entry[1]):
        raise BadTable(place)
    return (lot_label(lot, n), as_fraction(entry[1]))


def lot_row(n, lots):
    """The row of lots that is told by entries (lot, number)."""
    check_cut_size(n)
    check_entries(lots)
    return tuple(sums_at(n, [number_entry(entry, n, place) for place, entry in enumerate(lots)]))


def joining_lots(names):
    """The lots of at least two of the names, those of fewer names first."""
    return [lot for lot in lots_within(names) if len(lot) >= 2]


def sign_between(lot, part):
    """1 or -1, by turns with the number of names of the lot outside the part."""
    return -1 if (len(lot) - len(part)) % 2 == 1 else 1


def inside_rates(n, row):
    """The rates of the row of lots inside the lots with the codes 0, 1, .."""
    check_cut_size(n)
    number_at = {x: number for x, number in zip(all_partings(n), row_taken(n, row))}
    for x in number_at:
        if number_at[x] != (0, 1) and not is_lot_parting(x):
            raise NotOneLot(x)
    found = []
    for code in range(1 << n):
        names = [name for name in range(n) if (code >> name) & 1 == 1]
        found.append(summed([number_at[lot_label(lot, n)] for lot in joining_lots(names)]))
    return tuple(found)


def insides_from_exits(n, exit_at):
    """For each lot of at least two names the rate inside it, by the exits, integers, at the partings."""
    inside = {}
    for lot in joining_lots(list(range(n))):
        *rest, v = lot
        if len(lot) < n:
            blocks = relabelled([0 if name in rest else 1 if name == v else 2 for name in range(n)])
            cut = relabelled([0 if name in lot else 1 for name in range(n)])
            inside[lot] = inside.get(tuple(rest), 0) + exit_at[blocks] - exit_at[cut]
        else:
            # Nothing stands outside all names: here a cut tells the rest, one block of it a name alone.
            cut = relabelled([0 if name in rest else 1 for name in range(n)])
            inside[lot] = inside.get(tuple(rest), 0) + exit_at[cut]
    return inside


def lots_from_exits(n, exits):
    """The row of lots with these exits at the partings of two and of three blocks."""
    check_within(n, 3, 6, "n")
    tops, bottom = on_one_bottom(table_taken(n, exits))
    inside = insides_from_exits(n, {x: top for x, top in zip(all_partings(n), tops)})
    place_of = places(n)
    found = [(0, 1) for _ in place_of]
    for lot in inside:
        signed = [inside[part] * sign_between(lot, part) for part in joining_lots(lot)]
        found[place_of[lot_label(lot, n)]] = reduced(sum(signed), bottom)
    return tuple(found)


def triangle(first, second, third):
    """The weights of the lots (1, 2), (0, 2), (0, 1) with these rates at the cuts that part off 0, 1, 2."""
    taken = [amount_taken(first, "first"), amount_taken(second, "second"), amount_taken(third, "third")]
    tops, bottom = on_one_bottom(taken)
    return tuple([reduced(sum(tops) - 2 * top, 2 * bottom) for top in tops])


def from_triangle(first, second, third):
    """True if none of the three weights is below 0."""
    return all([top >= 0 for top, _ in triangle(first, second, third)])
