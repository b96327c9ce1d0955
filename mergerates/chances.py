"""Chances: a random parting, told by the chance of each parting."""

from mergerates.amounts import multiply, power, reduced, summed
from mergerates.breaking import breaking_rates
from mergerates.checks import (
    as_fraction, check_size, check_sizes, check_table, check_within, is_share, moment_taken, parting_on,
    some_lot_taken,
)
from mergerates.errors import BadTable, NotInside, TooMany
from mergerates.labels import all_partings, all_singles, is_finer, joined, traced
from mergerates.tables import sums_below, told_below

MOST_WEIGHT = 400
MOST_REPEATED = 20


def chances_taken(size, table):
    """The tuple of the fractions of chances."""
    check_table(size, table)
    for place, item in enumerate(table):
        if not is_share(item):
            raise BadTable(place)
    taken = tuple([as_fraction(item) for item in table])
    if summed(taken) != (1, 1):
        raise BadTable(-1)
    return taken


def sums_at(n, entries):
    """The table of the sums of the numbers of the entries (parting, number)."""
    parts = {t: [] for t in all_partings(n)}
    for t, number in entries:
        parts[t].append(number)
    return [summed(parts[t]) for t in parts]


class Chances:
    """The chances of a random parting X."""

    def __init__(self, size, table):
        check_size(size, "size")
        self.size = size
        self.table = chances_taken(size, table)

    def __iter__(self):
        return iter(self.table)

    def __add__(self, other):
        if not isinstance(other, Chances):
            return NotImplemented
        check_sizes(self, other)
        first = sums_below(self.size, self.table)
        second = sums_below(self.size, other.table)
        return Chances(self.size, told_below(self.size, [multiply(f, g) for f, g in zip(first, second)]))

    def __eq__(self, other):
        return isinstance(other, Chances) and self.size == other.size and self.table == other.table

    def entries(self):
        """The list of (t, chance of X = t), ascending."""
        return list(zip(all_partings(self.size), self.table))

    def at(self, t):
        """The chance of X = t."""
        taken = parting_on(self.size, t)
        return self.table[all_partings(self.size).index(taken)]

    def below(self, t):
        """The chance that X is finer than t."""
        taken = parting_on(self.size, t)
        return summed([chance for x, chance in self.entries() if is_finer(x, taken)])

    def above(self, r):
        """The chance that X is coarser than r."""
        taken = parting_on(self.size, r)
        return summed([chance for x, chance in self.entries() if is_finer(taken, x)])

    def trace_on(self, lot):
        """The Chances of the trace of X on the lot."""
        names = some_lot_taken(lot, self.size)
        return Chances(len(names), sums_at(len(names), [(traced(x, names), chance) for x, chance in self.entries()]))

    def inside(self, t):
        """The Chances of X, given that X is finer than t."""
        taken = parting_on(self.size, t)
        top, bottom = self.below(taken)
        if top == 0:
            raise NotInside(-1)
        return Chances(self.size, [reduced(many * bottom, part * top) if is_finer(x, taken) else 0
                                   for x, (many, part) in self.entries()])

    def joined_by(self, x):
        """The Chances of the join of X and x."""
        taken = parting_on(self.size, x)
        return Chances(self.size, sums_at(self.size, [(joined(t, taken), chance) for t, chance in self.entries()]))

    def repeated(self, k):
        """The Chances of the join of k random partings like X."""
        check_within(k, 1, MOST_REPEATED, "k")
        powers = [power(f, k) for f in sums_below(self.size, self.table)]
        return Chances(self.size, told_below(self.size, powers))


def one_time(j, u):
    """The Chances of a join world at u."""
    moment = moment_taken(u)
    many = j.breaking(all_singles(j.size))
    if many > MOST_WEIGHT:
        raise TooMany(many)
    return Chances(j.size, told_below(j.size, [power(moment, rate) for rate in breaking_rates(j)]))
