"""Many rows, count rows and worlds that are fair or nearly so, the same ones in each run."""

from fractions import Fraction
from functools import lru_cache
from itertools import combinations

from tests import many, plain

GREAT = 10 ** 14


def shape(p):
    """The sizes of the blocks, from the largest to the smallest."""
    return tuple(sorted((p.count(label) for label in set(p)), reverse=True))


@lru_cache(maxsize=None)
def shapes_of(m):
    """The words of [121]."""
    return sorted({shape(p) for p in plain.partings_of(m)[:-1]})


@lru_cache(maxsize=None)
def trace(p, lot):
    return plain.trace_on(p, lot)


def spread(m, numbers):
    """The row by counts as a dict of partings, 0 at singles."""
    number_of = dict(zip(shapes_of(m), numbers))
    return {p: number_of.get(shape(p), 0) for p in plain.partings_of(m)}


def traced_row(row, lot):
    """The words of [122], for a row as a dict of partings."""
    found = {y: 0 for y in plain.partings_of(len(lot))}
    for x, number in row.items():
        found[trace(x, tuple(lot))] += number
    found[plain.partings_of(len(lot))[-1]] = 0
    return found


def counts_rates(n, numbers):
    """The words of [123]: the rates of the counts world, those above 0, as a dict of pairs."""
    found = {}
    for p in plain.partings_of(n)[1:]:
        k = len(set(p))
        row = traced_row(spread(n, numbers), range(k))
        for r in plain.partings_of(n):
            if r != p and plain.is_finer(p, r) and row[seen(p, r)] > 0:
                found[p, r] = row[seen(p, r)]
    return dict(sorted(found.items()))


@lru_cache(maxsize=None)
def seen(p, r):
    """r seen from p: the blocks of p by one name each."""
    firsts = tuple(p.index(label) for label in range(len(set(p))))
    return trace(r, firsts)


@lru_cache(maxsize=None)
def count_rows(m):
    """Count rows of integers: zeros, one shape alone, few and many, small and great numbers."""
    width = len(shapes_of(m))
    found = [(0,) * width, (1,) * width]
    found.extend(tuple(1 + at if place == at else 0 for place in range(width)) for at in range(width))
    for seed, numbers in ((90, (0, 0, 1, 2)), (91, range(1, 9)), (92, (0, GREAT, 1))):
        chance = many.numbers(seed + m)
        found.append(tuple(numbers[next(chance) % len(numbers)] for _ in range(width)))
    found.append(tuple(3 if set(alone[1:]) <= {1} else 0 for alone in shapes_of(m)))
    return tuple(dict.fromkeys(found))


def by_chance(n, seed, numbers):
    chance = many.numbers(seed)
    return (*(numbers[next(chance) % len(numbers)] for _ in plain.partings_of(n)[:-1]), 0)


@lru_cache(maxsize=None)
def rows_on(n):
    """Rows: of zeros, by counts and others, one lot at a time and others, below 0 and of fractions."""
    every = plain.partings_of(n)
    found = [(0,) * len(every), (*[1] * (len(every) - 1), 0)]
    found.extend(tuple(spread(n, numbers).values()) for numbers in (count_rows(n)[2::3] if n > 1 else ()))
    lots = [p for p in every[:-1] if set(shape(p)[1:]) <= {1}]
    for seed, numbers in ((100, (0, 1)), (101, (-2, 0, 3)), (102, ((1, 2), (-2, 3), 5))):
        row = by_chance(n, seed, numbers)
        found.append(row)
        found.append(tuple(number if p in lots else 0 for p, number in zip(every, row)))
    found.append(by_chance(n, 103, (0, 0, 0, 1)))
    found.append(by_chance(n, 104, (GREAT, -GREAT, (1, GREAT))))
    found.extend(tuple(int(place == at) for place in range(len(every))) for at in range(0, len(every) - 1, 4))
    return tuple(dict.fromkeys(found))


def amounts_of(row):
    """The numbers of a row as Fractions."""
    return [Fraction(*number) if isinstance(number, tuple) else Fraction(number) for number in row]


def row_dict(n, row):
    return dict(zip(plain.partings_of(n), amounts_of(row)))


def unseen_at(n, t):
    """The row of [127] by its sums above: 1 at t and 0 at all others but singles."""
    found = {}
    # From coarse to fine: each number is what the sums of the coarser ones leave.
    for p in plain.partings_of(n)[:-1]:
        above = sum(number for x, number in found.items() if plain.is_finer(p, x))
        found[p] = int(p == t) - above
    return {**found, plain.partings_of(n)[-1]: 0}


def touches(t):
    return sum(t.count(label) > 1 for label in t)


def fair_rates(n, m, numbers, seed):
    """Rates of a world fair to m in which names may matter: the counts world, changed by rows unseen by m names."""
    found = counts_rates(n, numbers)
    chance = many.numbers(seed)
    for p in plain.partings_of(n)[1:]:
        b = len(set(p))
        for t in plain.partings_of(b)[:-1]:
            if touches(t) > m and next(chance) % 2 == 0:
                for x, number in unseen_at(b, t).items():
                    if number:
                        pair = (p, plain_lifted(p, x))
                        found[pair] = found.get(pair, 0) + number
    assert min(found.values(), default=0) >= 0
    return {pair: rate for pair, rate in sorted(found.items()) if rate > 0}


def plain_lifted(p, x):
    return tuple(x[label] for label in p)


def moves_of(rates):
    return [(p, r, rate) for (p, r), rate in rates.items()]


@lru_cache(maxsize=None)
def fair_moves(n):
    """Lists of moves on n names: of counts worlds, of such with one rate changed, fair to some m, and loose ones."""
    counts = [moves_of(counts_rates(n, numbers)) for numbers in count_rows(n)] if n > 1 else [[]]
    found = list(counts) if n < 5 else counts[::2]
    for moves in counts[1::3]:
        found.extend(many.changed(moves, place) for place in range(0, len(moves), 5 if n < 5 else 60))
    for m in range(2, n):
        found.append(moves_of(fair_rates(n, m, [30] * len(shapes_of(n)), 110 + m)))
        found.append(moves_of(fair_rates(n, m, range(40, 40 + len(shapes_of(n))), 120 + m)))
    found.append([])
    found.append(many.random_moves(n, 130, (0, 1, 2)))
    found.append(many.random_moves(n, 131, (0, 0, 0, 5)))
    return tuple(tuple(moves) for moves in found)


def goes_over(rates, lot, p):
    """The words of [124]: the rates at which the trace on the lot goes over from p."""
    found = {}
    for (x, r), rate in rates.items():
        if x == p and trace(r, lot) != trace(p, lot):
            found[trace(r, lot)] = found.get(trace(r, lot), 0) + rate
    return found


def unfair_pairs(n, rates, m):
    """All (lot, p, r) of [124] that show that the world is not fair to m, in the order of unfair_at."""
    for lot in combinations(range(n), m):
        over = {p: goes_over(rates, lot, p) for p in plain.partings_of(n)}
        for p, r in combinations(plain.partings_of(n), 2):
            if trace(p, lot) == trace(r, lot) and over[p] != over[r]:
                yield lot, p, r


def is_fair(n, rates, m):
    return next(unfair_pairs(n, rates, m), None) is None


def pair_sums(n, rates):
    """All sums of [126]: for each parting and two of its blocks the rate to where they are in one block."""
    found = []
    for p in plain.partings_of(n):
        for a, b in combinations(range(n), 2):
            if p[a] != p[b]:
                found.append(sum(rate for (x, r), rate in rates.items() if x == p and r[a] == r[b]))
    return found
