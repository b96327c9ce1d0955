"""Partings that nest, join worlds of such strokes, and the rates at which two names meet in them."""

from itertools import combinations

from mergerates.checks import MOST_NAMES, alike_partings, is_count, is_list
from mergerates.errors import BadTable, BadTriple
from mergerates.labels import joined


def with_name(p, z):
    """The names together with z."""
    return [name for name, label in enumerate(p) if label == p[z]]


def holds(block, other):
    return all([name in block for name in other])


def unnested_name(p, r):
    """The least name at which neither of its two blocks holds the other, None if there is none."""
    for z in range(len(p)):
        first = with_name(p, z)
        second = with_name(r, z)
        if not holds(first, second) and not holds(second, first):
            return z
    return None


def nest(p, r):
    """True if for each name one of its two blocks holds the other."""
    first, second = alike_partings(p, r)
    return unnested_name(first, second) is None


def union_is_parting(p, r):
    """True if names together in the join are together in one of the two."""
    first, second = alike_partings(p, r)
    both = joined(first, second)
    pairs = list(combinations(range(len(both)), 2))
    return all([first[a] == first[b] or second[a] == second[b] for a, b in pairs if both[a] == both[b]])


def unnested(j):
    """None if the join world is nested, else the least two strokes that do not nest and where."""
    strokes = [x for x, _ in j.strokes()]
    for x, y in combinations(strokes, 2):
        z = unnested_name(x, y)
        if z is not None:
            return (x, y, z)
    return None


def nested(j):
    """True if any two strokes nest."""
    return unnested(j) is None


def rate_of_meeting(strokes, a, b):
    return sum([weight for x, weight in strokes if x[a] == x[b]])


def meeting_rates(j):
    """For each name the tuple of its meeting rates with all names, None at its own place."""
    strokes = j.strokes()
    names = range(j.size)
    return [tuple([None if a == b else rate_of_meeting(strokes, a, b) for b in names]) for a in names]


def is_rate_row(row, earlier, many):
    """True for a row of meeting rates with many names that goes with the earlier rows."""
    place = len(earlier)
    if not is_list(row) or len(row) != many or row[place] is not None:
        return False
    if not all([is_count(rate) for name, rate in enumerate(row) if name != place]):
        return False
    return all([row[name] == other[place] for name, other in enumerate(earlier)])


def rates_taken(table):
    """The rows of meeting rates, of which each three names have the least rate at least twice."""
    if not is_list(table) or not 1 <= len(table) <= MOST_NAMES:
        raise BadTable(-1)
    for place, row in enumerate(table):
        if not is_rate_row(row, table[:place], len(table)):
            raise BadTable(place)
    for a, b, c in combinations(range(len(table)), 3):
        rates = [table[a][b], table[a][c], table[b][c]]
        if rates.count(min(rates)) == 1:
            raise BadTriple((a, b, c))
    return table


def lots_at(table, level):
    """The lots of at least two names that meet at this rate or a greater one."""
    lots = {}
    for name, row in enumerate(table):
        lot = tuple([other for other, rate in enumerate(row) if other == name or rate >= level])
        if len(lot) > 1:
            lots[lot] = True
    return list(lots)


def lots_from_rates(table):
    """The list of the lots with their weights, ascending, that make these meeting rates."""
    taken = rates_taken(table)
    levels = [rate for row in taken for rate in row if rate is not None]
    weights = {}
    last = 0
    # Between two rates that stand in the table the lots stay the same.
    for level in sorted(levels):
        for lot in lots_at(taken, level):
            weights[lot] = weights.get(lot, 0) + level - last
        last = level
    return sorted([(lot, weights[lot]) for lot in weights if weights[lot] > 0])
