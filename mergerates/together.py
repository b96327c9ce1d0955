"""Questions about a join world taken together: at one time, independent or not, and the first to be closed."""

from mergerates.amounts import minus, multiply, summed
from mergerates.chances import one_time
from mergerates.checks import is_list, is_name, lot_taken, moment_taken, parting_on, partings_on, wrong_name
from mergerates.errors import BadLot, NotOneLot
from mergerates.labels import all_open, all_partings, block_count, is_finer, joined, traced
from mergerates.means import time_among
from mergerates.partings import touched
from mergerates.polynomials import open_poly
from mergerates.serving import both_served, gatherings, strokes_alone


def closed_chance(j, r, u):
    """The chance that r is closed at u."""
    return both_closed(j, r, r, u)


def both_closed(j, r, s, u):
    """The chance that both questions are closed at u."""
    moment = moment_taken(u)
    first, second = partings_on(j.size, r, s)
    return one_time(j, moment).above(joined(first, second))


def covariance(j, r, s, u):
    """The chance that both questions are closed at u, less the product of the two chances."""
    moment = moment_taken(u)
    first, second = partings_on(j.size, r, s)
    chances = one_time(j, moment)
    both = chances.above(joined(first, second))
    return minus(both, multiply(chances.above(first), chances.above(second)))


def independent(j, r, s):
    """True if no stroke serves both questions."""
    return len(both_served(j, r, s)) == 0


def lots_taken(n, lots):
    """The lots, at least one, none empty and no two with a common name."""
    if not is_list(lots) or len(lots) == 0:
        raise BadLot(-1)
    before = []
    for place, lot in enumerate(lots):
        if wrong_name(lot, n) is not None or len(lot) == 0 or any([name in before for name in lot]):
            raise BadLot(place)
        before.extend(lot)
    return [lot_taken(lot, n) for lot in lots]


def joins_at_once(met, x, lot):
    """True if x joins two names of the lot at some of the gatherings."""
    return any([traced(t, lot) != traced(joined(t, x), lot) for t in met])


def sharing_stroke(j, lots):
    """None if the lots are independent, else the least stroke that serves two of them and the places of these."""
    taken = lots_taken(j.size, lots)
    met = gatherings(j)
    for x in strokes_alone(j):
        places = [place for place, lot in enumerate(taken) if joins_at_once(met, x, lot)]
        if len(places) > 1:
            return (x, places[0], places[1])
    return None


def lots_independent(j, lots):
    """True if no stroke serves questions of two of the lots."""
    return sharing_stroke(j, lots) is None


def together_chances(j, lots, u):
    """The list of (traces on the lots, chance of these at u), for the chances above 0, ascending."""
    moment = moment_taken(u)
    taken = lots_taken(j.size, lots)
    parts = {}
    for t, chance in zip(all_partings(j.size), one_time(j, moment)):
        traces = tuple([traced(t, lot) for lot in taken])
        parts.setdefault(traces, []).append(chance)
    told = [(traces, summed(parts[traces])) for traces in sorted(parts)]
    return [(traces, chance) for traces, chance in told if chance != (0, 1)]


def first_time(j, r, s):
    """The mean time until at least one of the questions is closed, None if that need not ever be."""
    first, second = partings_on(j.size, r, s)
    return time_among(j, all_open(first, second))


def product_time(j, r, s):
    """The mean of the product of the polynomials for r open and for s open."""
    first, second = partings_on(j.size, r, s)
    return (open_poly(j, first) * open_poly(j, second)).mean()


def parts_independent(j, t):
    """True if each stroke finer than t touches names of only one block of t."""
    taken = parting_on(j.size, t)
    for x in strokes_alone(j):
        if is_finer(x, taken):
            labels = [taken[name] for name in touched(x)]
            if labels.count(labels[0]) < len(labels):
                return False
    return True


def ways_on(pairs, way, end):
    """The list of the ways to the end that go on from this one along pairs."""
    if way[-1] == end:
        return [way]
    nexts = [b for a, b in pairs if a == way[-1] and b not in way]
    return [more for name in nexts for more in ways_on(pairs, (*way, name), end)]


def pairs_of(j):
    """The pairs (a, b) that strokes join, in both directions."""
    pairs = []
    for x in strokes_alone(j):
        if block_count(x) < j.size - 1:
            raise NotOneLot(x)
        a, b = touched(x)
        pairs.extend([(a, b), (b, a)])
    return pairs


def way_between(j, a, b, c, d):
    """True if a and b are a pair that a way along pairs from c to d goes along."""
    for place, name in enumerate([a, b, c, d]):
        if not is_name(name, j.size):
            raise BadLot(place)
    ways = ways_on(pairs_of(j), (c,), d)
    steps = [step for way in ways for step in zip(way, way[1:])]
    return (a, b) in steps or (b, a) in steps
