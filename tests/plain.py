"""The words of the document in slow and plain form, written without the program."""

from fractions import Fraction
from functools import lru_cache
from itertools import combinations, product


@lru_cache(maxsize=None)
def kept_partings(n):
    return tuple(p for p in product(range(n), repeat=n) if is_parting(p))


def partings_of(n):
    """All label tuples of point [2], ascending."""
    return list(kept_partings(n))


def is_parting(p):
    return all(label <= len(set(p[:place])) for place, label in enumerate(p))


def together(p):
    """All pairs a < b of names in one block."""
    return {(a, b) for a, b in combinations(range(len(p)), 2) if p[a] == p[b]}


@lru_cache(maxsize=None)
def is_finer(p, r):
    return together(p) <= together(r)


def join_of(rest):
    """The only one of the partings coarser than all that is finer than each of these."""
    coarser = [t for t in partings_of(len(rest[0])) if all(is_finer(p, t) for p in rest)]
    found, = [t for t in coarser if all(is_finer(t, s) for s in coarser)]
    return found


def parting_with(n, pairs):
    """The parting in which exactly these pairs are together."""
    found, = [p for p in partings_of(n) if together(p) == pairs]
    return found


def trace_on(p, lot):
    names = sorted(lot)
    pairs = {(i, k) for i, k in combinations(range(len(names)), 2) if p[names[i]] == p[names[k]]}
    return parting_with(len(names), pairs)


def all_lots(n):
    return [lot for size in range(n + 1) for lot in combinations(range(n), size)]


def comparable(n):
    """All pairs p <= r."""
    every = partings_of(n)
    return [(p, r) for p in every for r in every if is_finer(p, r)]


def some_moves(n, step=3, base=5):
    """Moves of a world with many different rates, some of them 0."""
    strict = [(p, r) for p, r in comparable(n) if p != r]
    return [(p, r, (step * k + k * k) % base) for k, (p, r) in enumerate(strict)]


def rate_of(moves, p, r):
    return sum(rate for x, y, rate in moves if (x, y) == (p, r))


def total_of(rates, p):
    return sum(rate for (x, _), rate in rates.items() if x == p)


def rates_told(moves):
    """The rates above 0 as a dict of pairs."""
    found = {}
    for p, r, rate in moves:
        if rate > 0:
            found[p, r] = found.get((p, r), 0) + rate
    return found


def ways_from(rates, p):
    """All chains from p along moves, those that stop before an end too, each with its chance."""
    found = {}
    waiting = [((p,), Fraction(1))]
    while waiting:
        chain, chance = waiting.pop()
        found[chain] = chance
        total = total_of(rates, chain[-1])
        for (x, r), rate in rates.items():
            if x == chain[-1]:
                waiting.append(((*chain, r), chance * rate / total))
    return found


def chances_of_being_met(n, rates, p):
    """The words of [18]: at r the chance that the run from p is at r at some time."""
    found = {r: Fraction(0) for r in partings_of(n)}
    for chain, chance in ways_from(rates, p).items():
        found[chain[-1]] += chance
    return found


def times_spent(rates, family, p):
    """For each parting that is reached from p inside the family the time there before the family is left."""
    found = {}
    for chain, chance in ways_from(rates, p).items():
        if all(x in family for x in chain):
            total = total_of(rates, chain[-1])
            if total == 0:
                found[chain[-1]] = None
            else:
                found[chain[-1]] = found.get(chain[-1], 0) + chance / total
    return found


def time_until_outside(rates, family, p):
    """The words of [19] by [22]."""
    times = list(times_spent(rates, family, p).values())
    return None if None in times else sum(times)


def exit_of(rates, p, family):
    return sum(rate for (x, r), rate in rates.items() if x == p and r not in family)


def below(t):
    return [p for p in partings_of(len(t)) if is_finer(p, t)]


def told(number):
    """A Fraction as the program tells it; None stays None."""
    if number is None:
        return None
    return (Fraction(number).numerator, Fraction(number).denominator)


def exit_of_row(b, row, t):
    return sum((Fraction(number) for x, number in zip(partings_of(b), row) if not is_finer(x, t)), Fraction(0))
