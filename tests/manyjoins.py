"""Many join worlds and many chances for the promises that hold in all of them, the same ones in each run."""

from fractions import Fraction
from functools import lru_cache

from mergerates.chances import Chances
from mergerates.joins import Joins
from tests import many, plain

SIZES = (1, 2, 3, 4)
GREAT = 10 ** 14
# Times u for which chances are asked: early and late ones, and one of many digits.
MOMENTS = ((1, 2), (99, 100), (1, 50), (10 ** 9 + 7, 10 ** 10))
# Lots with weights that make nested worlds, then some that do not.
NESTED_LOTS = (
    (((0, 1), 2), ((0, 1, 2), 1), ((0, 1, 2, 3), 3)), (((0, 1), 1), ((2, 3), 5), ((0, 1, 2, 3), 1)),
    (((0, 1), 1), ((2, 3), 1)), (((1, 2, 3), 4), ((2, 3), 1)), (((0, 3), GREAT), ((0, 1, 3), 1)),
)
OTHER_LOTS = (
    (((0, 1), 1), ((0, 2), 1), ((1, 2), 1), ((1, 3), 1)), (((0, 1, 2), 1), ((0, 1, 3), 1)),
    (((0, 1), 1), ((0, 1, 2, 3), 1)), (((0, 1), 1), ((1, 2), 2), ((2, 3), 3)),
)
PAIRS = (
    ((0, 1),), ((0, 1), (1, 2)), ((0, 1), (2, 3)), ((0, 1), (1, 2), (0, 2)), ((0, 1), (1, 2), (2, 3)),
    ((0, 2), (1, 2), (2, 3)), ((0, 1), (1, 2), (2, 3), (0, 3)), ((0, 1), (1, 2), (0, 2), (2, 3)),
    ((0, 1), (0, 2), (0, 3), (1, 2), (1, 3), (2, 3)), ((0, 2), (1, 3)),
)


def lot_label(n, lot):
    """The parting that holds the lot together."""
    return plain.parting_with(n, {(a, b) for a in lot for b in lot if a < b})


def of_lots(n, entries):
    found = {x: 0 for x in plain.partings_of(n)}
    for lot, weight in entries:
        found[lot_label(n, lot)] += weight
    return tuple(found.values())


def by_chance(n, seed, weights):
    found = many.random_weights(n, seed, weights)
    return (*(found[x] for x in plain.partings_of(n)[:-1]), 0)


def one_stroke(n, place, weight):
    table = [0] * len(plain.partings_of(n))
    table[place] = weight
    return tuple(table)


def fits(n, lot):
    return max(lot) < n


@lru_cache(maxsize=None)
def pair_tables(n):
    """Weights of pairs alone: forests, rings and others, of equal weights and of different ones."""
    found = []
    for pairs in PAIRS:
        if all(fits(n, pair) for pair in pairs):
            found.append(of_lots(n, [(pair, 1) for pair in pairs]))
            found.append(of_lots(n, [(pair, 1 + place * place) for place, pair in enumerate(pairs)]))
    return found


@lru_cache(maxsize=None)
def lot_tables(n):
    return [of_lots(n, entries) for entries in (*NESTED_LOTS, *OTHER_LOTS) if all(fits(n, lot) for lot, _ in entries)]


@lru_cache(maxsize=None)
def weight_tables(n):
    """Weights: of no stroke, of one, of few and of many, small and large ones."""
    last = len(plain.partings_of(n)) - 1
    found = [(0,) * (last + 1), (*[1] * last, 0)]
    found.extend(one_stroke(n, place, 1 + place) for place in range(last) if n < 4 or place in (0, 3, 5, 13))
    for seed in range(40, 44):
        found.append(by_chance(n, seed, (0, 0, 0, 1, 2)))
    found.append(by_chance(n, 50, range(1, 8)))
    found.append(by_chance(n, 51, (0, GREAT, 1, 0)))
    found.append(by_chance(n, 52, (GREAT, GREAT - 1, GREAT - 7)))
    found.append(tuple(GREAT if place == 0 < last else int(place < last) for place in range(last + 1)))
    return tuple(dict.fromkeys([*found, *lot_tables(n), *pair_tables(n)]))


@lru_cache(maxsize=None)
def joins_on(n):
    return tuple(Joins(n, weights) for weights in weight_tables(n))


def as_dict(n, table):
    return dict(zip(plain.partings_of(n), table))


def all_joins(sizes=SIZES):
    """Tuples (n, the weights as a dict of partings, the Joins)."""
    for n in sizes:
        for j in joins_on(n):
            yield n, as_dict(n, j.weights), j


def light_joins(sizes=SIZES):
    """Those whose chances at u are told without too many digits."""
    for n, weights, j in all_joins(sizes):
        if sum(j.weights) <= 60:
            yield n, weights, j


def strokes_of(weights):
    """The strokes of weights, a dict."""
    return [x for x, weight in weights.items() if weight > 0]


def breaking_of(weights, t):
    """The words of [46]."""
    return sum(weight for x, weight in weights.items() if weight > 0 and not plain.is_finer(x, t))


def top_of(n, weights):
    return plain.join_of([plain.partings_of(n)[-1], *strokes_of(weights)])


def random_parting(n, strokes):
    """For each parting its chance as the words of [62] tell it, for a list of strokes (x, miss)."""
    chances = {t: Fraction(0) for t in plain.partings_of(n)}
    chances[plain.partings_of(n)[-1]] = Fraction(1)
    for x, miss in strokes:
        found = {t: Fraction(0) for t in chances}
        for t, chance in chances.items():
            if chance:
                found[t] += chance * miss
                found[many.join_of(t, x)] += chance * (1 - miss)
        chances = found
    return chances


def at_time(n, weights, u):
    """The chances of the join world at u by the words of [70]."""
    return random_parting(n, [(x, Fraction(*u) ** weights[x]) for x in strokes_of(weights)])


def polys_at(n, weights):
    """The same as polynomials: for each parting the coefficients by exponents."""
    polys = {t: {} for t in plain.partings_of(n)}
    polys[plain.partings_of(n)[-1]] = {0: 1}
    for x in strokes_of(weights):
        found = {t: {} for t in polys}
        for t, f in polys.items():
            s = many.join_of(t, x)
            for e, c in f.items():
                found[t][e + weights[x]] = found[t].get(e + weights[x], 0) + c
                found[s][e] = found[s].get(e, 0) + c
                found[s][e + weights[x]] = found[s].get(e + weights[x], 0) - c
        polys = found
    return polys


def sum_of_polys(polys):
    """The terms of the sum of polynomials, dicts."""
    found = {}
    for f in polys:
        for e, c in f.items():
            found[e] = found.get(e, 0) + c
    return tuple((e, found[e]) for e in sorted(found) if found[e] != 0)


def mean_of(terms):
    """The mean of [69] of terms."""
    return None if any(e == 0 for e, _ in terms) else sum((Fraction(c, e) for e, c in terms), Fraction(0))


def normed(n, numbers):
    """The Chances in the ratio of the numbers."""
    return Chances(n, [plain.told(Fraction(number, sum(numbers))) for number in numbers])


@lru_cache(maxsize=None)
def stroke_lists(n):
    """Lists of strokes with misses: none, one, few and many, misses of 1 and those close to 0 and to 1."""
    every = plain.partings_of(n)[:-1]
    found = [[]]
    for seed, misses in ((60, ((1, 2), (1, 3))), (61, ((1, 100), 1, (99, 100))), (62, ((2, 3), (5, 7), (1, 10 ** 9)))):
        chance = many.numbers(seed)
        found.append([(x, misses[next(chance) % len(misses)]) for x in every])
        found.append([(x, misses[next(chance) % len(misses)]) for x in every if next(chance) % 3 == 0])
        found.append([(x, misses[0]) for x in every[:1]])
        found.append([(x, misses[-1]) for x in every[-1:]])
    return tuple(tuple(rest) for rest in found)


@lru_cache(maxsize=None)
def other_chances(n):
    """Chances told by their tables, most of which come of no strokes."""
    many_of = len(plain.partings_of(n))
    found = [normed(n, [1] * many_of), normed(n, range(1, many_of + 1)), normed(n, [1] + [0] * (many_of - 1))]
    for seed, numbers in ((70, range(1, 9)), (71, (0, 0, 1, 2)), (72, (0, 1)), (73, (1, 1000, 10 ** 9))):
        chance = many.numbers(seed)
        found.append(normed(n, [numbers[next(chance) % len(numbers)] for _ in range(many_of - 1)] + [1]))
    if n > 1:
        found.append(normed(n, [1] * (many_of - 1) + [0]))
    return tuple(found)


def exact(number):
    """A Fraction for what the program told; None stays None."""
    return None if number is None else Fraction(*number)


def table_dict(n, table):
    """The numbers of a table as Fractions by partings."""
    return {t: exact(number) for t, number in zip(plain.partings_of(n), table)}
