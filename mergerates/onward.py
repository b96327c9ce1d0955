"""Count rows that go on to more names, and what refuses them."""

from math import gcd, lcm

from mergerates.amounts import on_one_bottom, reduced, summed
from mergerates.checks import amount_taken, as_fraction, check_within, is_list
from mergerates.errors import BadTable
from mergerates.labels import all_partings, subsets
from mergerates.partings import shape_of
from mergerates.rows import all_shapes, check_shares, count_row_taken, traced_counts

MOST_RATES = 20


def rates_taken(rates):
    """The fractions of a list of one to twenty rates."""
    if not is_list(rates) or not 1 <= len(rates) <= MOST_RATES:
        raise BadTable(-1)
    check_shares(rates)
    return [as_fraction(rate) for rate in rates]


def next_stretch(rates):
    """The least and the greatest last rate with which no rate on one more name is below 0, or None."""
    tops, bottom = on_one_bottom(rates_taken(rates))
    least = 0
    highs = []
    offset = 0
    rises = True
    # Each rate is an offset with the last rate added or taken away, by turns.
    for top in tops[::-1]:
        offset = top - offset
        rises = not rises
        if rises:
            least = max(least, -offset)
        else:
            highs.append(offset)
    greatest = min(highs)
    return None if least > greatest else (reduced(least, bottom), reduced(greatest, bottom))


def next_rates(rates, z):
    """The rates on one more name whose last one is z."""
    last = amount_taken(z, "z")
    tops, bottom = on_one_bottom([*rates_taken(rates), last])
    found = [tops[-1]]
    for top in tops[-2::-1]:
        found.append(top - found[-1])
    return tuple([reduced(top, bottom) for top in found[::-1]])


def check_onward(m, k):
    check_within(m, 2, 5, "m")
    check_within(k, m + 1, 6, "k")


def unit_traces(m, k):
    """For each shape of k names the trace on m names of the count row that is 1 at it and 0 elsewhere."""
    width = len(all_shapes(k))
    return [traced_counts(k, [1 if place == at else 0 for place in range(width)], m) for at in range(width)]


def crossed_out(row, pivot, place):
    """A multiple of the row and of the pivot row added, so that it is 0 at the place, as small as it may be."""
    left = [number * pivot[place] - other * row[place] for number, other in zip(row, pivot)]
    common = 0
    for number in left:
        common = gcd(common, number)
    return left if common == 0 else [number // common for number in left]


def cleared(rows, width):
    """Tuples (place, row) for places below the width: at its place each row alone has a number other than 0."""
    waiting = rows
    pivots = []
    for place in range(width):
        held = [at for at, row in enumerate(waiting) if row[place] != 0]
        if len(held) > 0:
            pivot = waiting[held[0]]
            waiting = [crossed_out(row, pivot, place) for at, row in enumerate(waiting) if at != held[0]]
            pivots = [*[(old, crossed_out(row, pivot, place)) for old, row in pivots], (place, pivot)]
    return pivots


def shares_of(columns, goal):
    """The pairs (top, bottom) with which the columns add up to the goal, None if there is no one way to do so."""
    pivots = cleared([[*row, number] for row, number in zip(list(zip(*columns)), goal)], len(columns))
    if len(pivots) < len(columns):
        return None
    return [reduced(row[-1], row[place]) for place, row in pivots]


def corner_at(columns, chosen, tops, bottom):
    """The numbers for all columns, above 0 at the chosen ones alone, that add up to the row; None if there are none."""
    shares = shares_of([columns[at] for at in chosen], tops)
    if shares is None or any([top < 0 for top, _ in shares]):
        return None
    share_at = {at: reduced(top, under * bottom) for at, (top, under) in zip(chosen, shares)}
    return tuple([share_at.get(at, (0, 1)) for at in range(len(columns))])


def upright(columns, width):
    """The integers that give 0 with each of the columns, None if these are told by more than one factor."""
    pivots = cleared(columns, width)
    if len(pivots) < width - 1:
        return None
    places = [place for place, _ in pivots]
    free = [place for place in range(width) if place not in places][0]
    common = 1
    for place, row in pivots:
        common = lcm(common, row[place])
    number_at = {place: -row[free] * common // row[place] for place, row in pivots}
    return [number_at.get(place, common) for place in range(width)]


def times_column(y, column):
    return sum([number * other for number, other in zip(y, column)])


def refusing(y, columns, tops):
    """True if y is at least 0 with each column and below 0 with the row."""
    return times_column(y, tops) < 0 and all([times_column(y, column) >= 0 for column in columns])


def goes_on(m, numbers, k):
    """A count row on k names whose trace on m names is this one, None if there is none."""
    check_onward(m, k)
    tops, bottom = on_one_bottom(count_row_taken(m, numbers))
    columns = unit_traces(m, k)
    for chosen in subsets(len(columns), len(tops)):
        found = corner_at(columns, chosen, tops, bottom)
        if found is not None:
            return found
    return None


def refusal(m, numbers, k):
    """Integers, one for each shape, that refuse the count row for k; None if it goes on."""
    check_onward(m, k)
    tops, _ = on_one_bottom(count_row_taken(m, numbers))
    columns = unit_traces(m, k)
    # If a row is refused at all, one of the flat sides of the rows that go on refuses it.
    for chosen in subsets(len(columns), len(tops) - 1):
        y = upright([columns[at] for at in chosen], len(tops))
        if y is not None:
            for told in (y, [-number for number in y]):
                if refusing(told, columns, tops):
                    return tuple(told)
    return None


def total_ends(m, numbers, k):
    """The least and the greatest total of the count rows on k names with this trace; None if there is none."""
    check_onward(m, k)
    tops, bottom = on_one_bottom(count_row_taken(m, numbers))
    columns = unit_traces(m, k)
    # All count rows with this trace lie between the corners, so no total is beyond those of all corners.
    corners = [corner_at(columns, chosen, tops, bottom) for chosen in subsets(len(columns), len(tops))]
    found = [row for row in corners if row is not None]
    if len(found) == 0:
        return None
    told = [shape_of(x) for x in all_partings(k)]
    counts = [told.count(shape) for shape in all_shapes(k)]
    sums = [summed([(top * many, under) for (top, under), many in zip(row, counts)]) for row in found]
    ends, common = on_one_bottom(sums)
    return (reduced(min(ends), common), reduced(max(ends), common))
