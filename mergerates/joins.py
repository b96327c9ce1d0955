"""Join worlds: strokes come at the rates that are their weights, and each joins what stands."""

from mergerates.checks import (
    check_count, check_size, is_count, is_list, is_name, parting_on, weights_taken, wrong_name,
)
from mergerates.errors import BadLot, BadTable, NotJoins
from mergerates.labels import all_partings, all_singles, block_count, is_finer, joined, joined_all, lot_label
from mergerates.worlds import World


def strokes_told(size, weights):
    """The list of (x, weight) of the partings with a weight above 0, ascending."""
    return [(x, weight) for x, weight in zip(all_partings(size), weights) if weight > 0]


def joined_moves(size, weights):
    """The moves from each parting to its joins with the strokes."""
    strokes = strokes_told(size, weights)
    moves = []
    for p in all_partings(size):
        rates = {}
        for x, weight in strokes:
            r = joined(p, x)
            rates[r] = rates.get(r, 0) + weight
        moves.extend([(p, r, rates[r]) for r in rates if r != p])
    return moves


def check_entries(entries):
    if not is_list(entries):
        raise BadTable(-1)


def check_entry(entry, many, place):
    """Refuses what is no list of so many items."""
    if not is_list(entry) or len(entry) != many:
        raise BadTable(place)


def lot_of_entry(entry, size, place):
    """The lot of an entry (lot, number) at this place of a list; the number is not looked at yet."""
    check_entry(entry, 2, place)
    lot = entry[0]
    if wrong_name(lot, size) is not None:
        raise BadLot(place)
    if len(lot) < 2:
        raise BadTable(place)
    return lot


def lot_entry(entry, size, place):
    """The tuple (lot, weight) that an entry at this place of a list is."""
    lot = lot_of_entry(entry, size, place)
    if not is_count(entry[1]):
        raise BadTable(place)
    return (lot, entry[1])


def pair_entry(entry, size, place):
    """The tuple (lot, weight) that an entry (a, b, weight) at this place of a list is."""
    check_entry(entry, 3, place)
    a, b, weight = entry
    if not is_name(a, size) or not is_name(b, size) or a == b:
        raise BadLot(place)
    if not is_count(weight):
        raise BadTable(place)
    return ((a, b), weight)


def weights_of_lots(size, entries):
    """The table of weights that has the weights of the entries (lot, weight) at the partings of their lots."""
    weights = {x: 0 for x in all_partings(size)}
    for lot, weight in entries:
        weights[lot_label(lot, size)] += weight
    return tuple([weights[x] for x in weights])


class Joins(World):
    """The join world of weights."""

    KIND = "joins"

    def __init__(self, size, weights, *, times=1):
        check_size(size, "size")
        check_count(times, "times")
        taken = tuple([weight * times for weight in weights_taken(size, weights)])
        super().__init__(size, joined_moves(size, taken))
        self.weights = taken

    @classmethod
    def of_lots(cls, size, lots):
        """The Joins whose strokes are the lot partings of entries (lot, weight)."""
        check_size(size, "size")
        check_entries(lots)
        entries = [lot_entry(entry, size, place) for place, entry in enumerate(lots)]
        return Joins(size, weights_of_lots(size, entries))

    @classmethod
    def of_pairs(cls, size, pairs):
        """The Joins whose strokes are the lot partings of pairs, told by entries (a, b, weight)."""
        check_size(size, "size")
        check_entries(pairs)
        entries = [pair_entry(entry, size, place) for place, entry in enumerate(pairs)]
        return Joins(size, weights_of_lots(size, entries))

    @property
    def top(self):
        """The join of all strokes."""
        return joined_all([all_singles(self.size), *[x for x, _ in self.strokes()]])

    def strokes(self):
        """The list of (x, weight) of all strokes, ascending."""
        return strokes_told(self.size, self.weights)

    def breaking(self, t):
        """The sum of the weights of the strokes that are not finer than t."""
        taken = parting_on(self.size, t)
        return sum([weight for x, weight in self.strokes() if not is_finer(x, taken)])

    def seen_joins(self, p):
        """The join world on the blocks of p."""
        here = parting_on(self.size, p)
        # Where a join world goes on from p the strokes are the rates from p.
        return Joins(block_count(here), self.row_at(here))

    def under(self, t):
        """The join world of the strokes finer than t alone."""
        taken = parting_on(self.size, t)
        every = all_partings(self.size)
        return Joins(self.size, [weight if is_finer(x, taken) else 0 for x, weight in zip(every, self.weights)])

    def without(self, x):
        """The join world of all strokes but x."""
        taken = parting_on(self.size, x)
        every = all_partings(self.size)
        return Joins(self.size, [0 if y == taken else weight for y, weight in zip(every, self.weights)])


def joins_of(world):
    """The Joins that equals the world."""
    found = Joins(world.size, world.first_rates())
    for p in all_partings(world.size):
        if found.from_here(p) != world.from_here(p):
            raise NotJoins(p)
    return found
