"""[25] and likeness.py: worlds in which all chains from singles have the same chance."""

from fractions import Fraction
from itertools import product

from mergerates.errors import BadParting, OtherSize
from mergerates.likeness import factor_at, same_chains, unlike_chain
from mergerates.partings import partings, singles
from mergerates.runs import chain_chance, stays
from mergerates.worlds import World, reached
from tests import many, plain
from tests.case import NO_PARTINGS, Case

S = (0, 1, 2)
T = (0, 0, 1)
W = (0, 0, 0)
EXAMPLE = World(3, [(S, T, 2), (S, W, 1), (T, W, 4)])


def all_chains(n):
    """All chains from singles, along moves or not."""
    found = [(singles(n),)]
    for chain in found:
        found.extend((*chain, r) for r in partings(n) if r != chain[-1] and plain.is_finer(chain[-1], r))
    return found


def plain_factor(world, other, p):
    """The words of [25]."""
    old, new = dict(world.from_here(p)), dict(other.from_here(p))
    if not old and not new:
        return Fraction(1)
    factors = {Fraction(new.get(r, 0), old[r]) if r in old else None for r in [*old, *new]}
    if len(factors) == 1 and None not in factors and factors != {0}:
        return factors.pop()
    return None


def stretched(world, seed, spoiled=None):
    """The rates from each parting times a number of its own; all not reached, and one more, are spoiled."""
    chance = many.numbers(seed)
    factors = {p: 1 + next(chance) % 4 for p in partings(world.size)}
    seen = reached(world)
    moves = [(p, r, rate * factors[p]) for p, r, rate in world if p in seen]
    strict = many.strict_pairs(world.size)
    moves += [(p, r, next(chance) % 3) for p, r in strict if p not in seen]
    if spoiled is not None and spoiled < len(strict):
        moves.append((*strict[spoiled], 1))
    return World(world.size, moves)


def some_pairs(n):
    worlds = many.worlds_on(n)
    for place, world in enumerate(worlds):
        yield world, world
        yield world, world * 3
        yield world, world * 0
        yield world, worlds[place - 1]
        yield world, stretched(world, place)
        yield stretched(world, place), world
        for spoiled in range(0, 50, 9):
            yield world, stretched(world, place, spoiled)


class Factors(Case):
    def test_25_factor_at(self):
        for n in many.SIZES:
            for world, other in some_pairs(n):
                for p in partings(n):
                    self.same(factor_at(world, other, p), plain.told(plain_factor(world, other, p)))
        self.same(factor_at(world=EXAMPLE, other=EXAMPLE * 5, p=list(S)), (5, 1))
        self.same(factor_at(EXAMPLE * 6, EXAMPLE * 4, T), (2, 3))

    def test_ends(self):
        for n in many.SIZES:
            for p in partings(n):
                self.same(factor_at(World(n), World(n), p), (1, 1))
        self.same(factor_at(EXAMPLE, World(3), S), None)
        self.same(factor_at(World(3), EXAMPLE, S), None)
        self.same(factor_at(EXAMPLE, EXAMPLE * 7, W), (1, 1))

    def test_other_moves(self):
        self.same(factor_at(EXAMPLE, World(3, [(S, T, 2)]), S), None)
        self.same(factor_at(World(3, [(S, T, 2)]), EXAMPLE, S), None)
        self.same(factor_at(EXAMPLE, World(3, [(S, (0, 1, 0), 2), (S, W, 1)]), S), None)
        self.same(factor_at(EXAMPLE, World(3, [(S, T, 2), (S, W, 2)]), S), None)

    def test_rates_of_very_different_size(self):
        w = World(3, [(S, T, 10 ** 14), (S, W, 1)])
        self.same(factor_at(w, World(3, [(S, T, 10 ** 14 - 1), (S, W, 1)]), S), None)
        self.same(factor_at(w, w * 10 ** 14, S), (10 ** 14, 1))


class Likeness(Case):
    def test_25_same_chains_exactly_with_factors_where_it_is_reached(self):
        for n in many.SIZES:
            every = all_chains(n)
            kept = {}
            for world, other in some_pairs(n):
                for w in (world, other):
                    if w.moves not in kept:
                        kept[w.moves] = [chain_chance(w, chain) for chain in every]
                alike = kept[world.moves] == kept[other.moves]
                self.same(same_chains(world, other), alike)
                missing = [p for p in reached(world) if plain_factor(world, other, p) is None]
                self.same(unlike_chain(world, other), min(missing, default=None))
                self.assertEqual(alike, not missing)
                if alike:
                    self.assertEqual(reached(world), reached(other))
                    ones = all(plain_factor(world, other, p) == 1 for p in reached(world))
                    self.assertEqual(stays(world) == stays(other), ones)

    def test_25_what_is_not_reached_does_not_matter(self):
        other = World(3, [*EXAMPLE.moves, ((0, 1, 1), W, 5)])
        self.same(same_chains(EXAMPLE, other), True)
        self.same(unlike_chain(EXAMPLE, other), None)
        self.same(factor_at(EXAMPLE, other, (0, 1, 1)), None)

    def test_the_least_parting(self):
        other = World(3, [(S, T, 1), (S, W, 1)])
        self.same(unlike_chain(EXAMPLE, other), T)
        self.same(unlike_chain(world=other, other=EXAMPLE), T)
        self.same(unlike_chain(EXAMPLE, World(3, [(S, T, 1), (S, W, 1), (T, W, 1)])), S)
        self.same(same_chains(world=EXAMPLE, other=other), False)

    def test_one_name(self):
        self.same(same_chains(World(1), World(1)), True)
        self.same(unlike_chain(World(1), World(1)), None)
        self.same(factor_at(World(1), World(1), (0,)), (1, 1))


class Refusals(Case):
    def test_sizes_of_the_worlds(self):
        for n, k in product(range(1, 5), repeat=2):
            if n != k:
                self.refuses(OtherSize, k, unlike_chain, World(n), World(k))
                self.refuses(OtherSize, k, same_chains, World(n), World(k))
                self.refuses(OtherSize, k, factor_at, World(n), World(k), singles(n))
                self.refuses(OtherSize, k, factor_at, World(n), World(k), singles(k))
                self.refuses(OtherSize, k, factor_at, World(n), World(k), singles(6))

    def test_partings(self):
        for wrong, place in NO_PARTINGS:
            self.refuses(BadParting, place, factor_at, EXAMPLE, EXAMPLE, wrong)
            self.refuses(BadParting, place, factor_at, EXAMPLE, World(2), wrong)
        self.refuses(OtherSize, 2, factor_at, EXAMPLE, EXAMPLE, (0, 1))
        self.refuses(OtherSize, 4, factor_at, EXAMPLE, EXAMPLE * 2, (0, 1, 2, 3))
