"""Many worlds for the promises that hold in every world, the same ones in each run."""

from functools import lru_cache

from mergerates.colours import unseen_rows
from mergerates.partings import lifted
from mergerates.rows import Counts
from mergerates.worlds import World
from tests import plain

SIZES = (1, 2, 3, 4)
GREAT = 10 ** 14
# Count rows of the counts worlds, one lot at a time and others, one of zeros.
COUNT_ROWS = {2: ((3,),), 3: ((2, 1), (0, 5)), 4: ((1, 0, 0, 0), (2, 1, 0, 3), (0, 0, GREAT, 1), (0, 0, 0, 0))}


def numbers(seed):
    """Endless numbers from 0 to 2 ** 31 - 1 that look like chance."""
    while True:
        seed = (seed * 1103515245 + 12345) % 2 ** 31
        yield seed // 2 ** 8 * 977 % 2 ** 31


def strict_pairs(n):
    return [(p, r) for p, r in plain.comparable(n) if p != r]


@lru_cache(maxsize=None)
def join_of(p, x):
    return plain.join_of([p, x])


def join_moves(n, weights):
    """The moves of the joins that come with the weights, a dict of partings: p goes to x + p."""
    found = {}
    for p in plain.partings_of(n):
        for x, weight in weights.items():
            r = join_of(p, x)
            if r != p and weight > 0:
                found[p, r] = found.get((p, r), 0) + weight
    return [(p, r, rate) for (p, r), rate in sorted(found.items())]


def random_moves(n, seed, rates, least=0):
    """For each pair one of the rates by chance, or none at the pairs whose second parting has fewer blocks."""
    chance = numbers(seed)
    return [(p, r, rates[next(chance) % len(rates)]) for p, r in strict_pairs(n) if len(set(r)) > least]


def random_weights(n, seed, rates):
    chance = numbers(seed)
    return {x: rates[next(chance) % len(rates)] for x in plain.partings_of(n)[:-1]}


def lot_weights(n, seed, rates):
    chance = numbers(seed)
    lots = [x for x in plain.partings_of(n)[:-1] if sum(x.count(label) > 1 for label in set(x)) == 1]
    return {x: rates[next(chance) % len(rates)] for x in lots}


def changed(moves, place):
    """One rate is one more."""
    p, r, rate = moves[place]
    return [*moves[:place], (p, r, rate + 1), *moves[place + 1:]]


def steady_to_few(n, q, seed):
    """Moves of a world that is steady to q: rows differ from the joined ones by rows unseen by q colours."""
    moves = join_moves(n, {x: 30 + place for place, x in enumerate(plain.partings_of(n)[:-1])})
    rates = plain.rates_told(moves)
    chance = numbers(seed)
    for p in plain.partings_of(n)[:-1]:
        b = len(set(p))
        for row in unseen_rows(b, min(q, b)):
            many = next(chance) % 3
            for x, number in zip(plain.partings_of(b), row):
                if number != 0:
                    rates[p, lifted(p, x)] += many * number
    return [(p, r, rate) for (p, r), rate in rates.items()]


@lru_cache(maxsize=None)
def moves_on(n):
    """Lists of moves on n names: all and few, with ends in between and without, steady and nearly steady."""
    found = [[], random_moves(n, 1, range(1, 10)), random_moves(n, 2, (1, GREAT, 7, GREAT - 1, 2))]
    found.extend(random_moves(n, seed, (0, 0, 0, 1, 5)) for seed in (3, 4, 5))
    found.extend(random_moves(n, seed, (0, 0, 1, 2, 3)) for seed in (6, 7))
    found.append(random_moves(n, 8, (0, 2, 3), 1))
    found.append(random_moves(n, 9, (0, 1), 2))
    joins = [join_moves(n, random_weights(n, 10, range(1, 8)))]
    joins.append(join_moves(n, random_weights(n, 11, (0, 0, 0, 1, 2))))
    joins.append(join_moves(n, random_weights(n, 12, (0, GREAT, 1, 0))))
    joins.append(join_moves(n, lot_weights(n, 13, (0, 1, 2))))
    joins.append(join_moves(n, lot_weights(n, 14, (1, 3))))
    found.extend(joins)
    for moves in joins:
        found.extend(changed(moves, place) for place in range(0, len(moves), 7))
    for q in range(1, n):
        found.append(steady_to_few(n, q, 20 + q))
    return tuple(tuple(moves) for moves in found)


@lru_cache(maxsize=None)
def worlds_on(n):
    """The worlds of these moves, then the counts worlds."""
    return (*[World(n, moves) for moves in moves_on(n)], *[Counts(n, numbers) for numbers in COUNT_ROWS.get(n, ())])


def moves_told(world):
    """The moves by plain loops over all pairs, from what the world answers when it is called."""
    return [(p, r, world(p, r)) for p, r in strict_pairs(world.size)]


def all_worlds(sizes=SIZES):
    """Tuples (n, the rates above 0 as a dict of pairs, the world)."""
    for n in sizes:
        for moves, world in zip(moves_on(n), worlds_on(n)):
            yield n, plain.rates_told(moves), world
        for world in worlds_on(n)[len(moves_on(n)):]:
            yield n, plain.rates_told(moves_told(world)), world


def some_families(n):
    """Families of partings: all of them on up to three names, many on four names."""
    every = plain.partings_of(n)
    if n <= 3:
        bits = range(1, 2 ** len(every))
    else:
        chance = numbers(31)
        bits = [1 + next(chance) % (2 ** len(every) - 1) for _ in range(25)]
    for number in bits:
        yield [p for place, p in enumerate(every) if number >> place & 1]
    if n > 3:
        for t in every:
            yield plain.below(t)
