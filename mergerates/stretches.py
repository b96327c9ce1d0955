"""Stretches of weights: what is least and greatest over all join worlds between a low and a high one."""

from mergerates.checks import check_size, check_sizes, check_table, is_integer, weights_taken
from mergerates.errors import BadTable
from mergerates.joins import Joins
from mergerates.labels import all_partings
from mergerates.means import question_time
from mergerates.serving import servers
from mergerates.together import closed_chance


def highs_taken(n, highs, lows):
    """The tuple of the high weights, none of which is below the low one."""
    check_table(n, highs)
    last = len(highs) - 1
    for place, weight in enumerate(highs):
        if not is_integer(weight) or weight < lows[place] or (place == last and weight != 0):
            raise BadTable(place)
    return tuple(highs)


class Stretches:
    """A least and a greatest weight for each parting."""

    def __init__(self, size, lows, highs):
        check_size(size, "size")
        self.size = size
        self.lows = weights_taken(size, lows)
        self.highs = highs_taken(size, highs, self.lows)

    def low_joins(self):
        """The join world of the low weights."""
        return Joins(self.size, self.lows)

    def high_joins(self):
        """The join world of the high weights."""
        return Joins(self.size, self.highs)

    def agrees(self, j):
        """True if no weight of j is below the low or above the high one."""
        check_sizes(self, j)
        return all([low <= weight <= high for low, weight, high in zip(self.lows, j.weights, self.highs)])

    def wide(self):
        """The list of the partings whose low weight is less than the high one, ascending."""
        return [x for x, low, high in zip(all_partings(self.size), self.lows, self.highs) if low < high]


def closed_ends(stretches, r, u):
    """The least and the greatest chance that r is closed at u."""
    # The high world comes first: it is the one that tells the errors.
    greatest = closed_chance(stretches.high_joins(), r, u)
    return (closed_chance(stretches.low_joins(), r, u), greatest)


def time_ends(stretches, r):
    """The least and the greatest mean time until r is closed."""
    return (question_time(stretches.high_joins(), r), question_time(stretches.low_joins(), r))


def ends_unlike(stretches, r):
    """True if a wide parting serves r in the high world."""
    serving = servers(stretches.high_joins(), r)
    return any([x in serving for x in stretches.wide()])
