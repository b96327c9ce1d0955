"""[18], [20], [21] and runs.py: stays, chances of being met, chains and their chances."""

from fractions import Fraction

from mergerates.errors import BadParting, NotFiner, OtherSize, TooMany
from mergerates.partings import partings, singles, whole
from mergerates.runs import chain_chance, chains, meets, stays
from mergerates.worlds import World, reached
from tests import many, plain
from tests.case import NO_PARTINGS, Case

S = (0, 1, 2)
T = (0, 0, 1)
W = (0, 0, 0)
EXAMPLE = World(3, [(S, T, 2), (S, W, 1), (T, W, 4)])


def exact(number):
    return None if number is None else Fraction(*number)


def as_dict(n, table):
    return {r: exact(number) for r, number in zip(partings(n), table)}


class Stays(Case):
    def test_example(self):
        self.same(stays(EXAMPLE), (None, (1, 6), (0, 1), (0, 1), (1, 3)))
        self.same(stays(EXAMPLE, T), (None, (1, 4), (0, 1), (0, 1), (0, 1)))
        self.same(stays(EXAMPLE, inside=T), ((0, 1), (1, 6), (0, 1), (0, 1), (1, 3)))

    def test_18_mean_times(self):
        for n, rates, w in many.all_worlds():
            for p in partings(n):
                spent = plain.times_spent(rates, partings(n), p)
                expected = tuple(plain.told(spent.get(r, 0)) for r in partings(n))
                self.same(stays(w, p), expected)
                self.same(stays(world=w, start=list(p)), expected)
            self.same(stays(w), stays(w, singles(n)))
            self.same(stays(w, None, inside=None), stays(w, singles(n)))

    def test_times_inside(self):
        for n, rates, w in many.all_worlds():
            for p, t in plain.comparable(n):
                spent = plain.times_spent(rates, plain.below(t), p)
                self.same(stays(w, p, inside=list(t)), tuple(plain.told(spent.get(r, 0)) for r in partings(n)))
            for t in partings(n):
                self.same(stays(w, inside=t), stays(w, singles(n), inside=t))
                self.same(stays(w, t, inside=whole(n)), stays(w, t))

    def test_20_stays_and_meets(self):
        for n, rates, w in many.all_worlds():
            for p in partings(n):
                time, met = as_dict(n, stays(w, p)), as_dict(n, meets(w, p))
                self.assertEqual(sum(met[r] for r in partings(n) if w.is_end(r)), 1)
                for r in partings(n):
                    if not w.is_end(r):
                        self.assertEqual(time[r], met[r] / w.total_from(r))
                    if r != p:
                        self.assertEqual(met[r], sum(time[x] * rate for x, y, rate in w if y == r))

    def test_20_stays_by_the_first_move(self):
        for n, rates, w in many.all_worlds():
            table = {p: as_dict(n, stays(w, p)) for p in partings(n)}
            for p in partings(n):
                for r in partings(n):
                    if not w.is_end(p) and not w.is_end(r):
                        total = w.total_from(p)
                        expected = sum(Fraction(rate, total) * table[x][r] for x, rate in w.from_here(p))
                        self.assertEqual(table[p][r], expected + (Fraction(1, total) if r == p else 0))

    def test_an_end_as_start(self):
        for n, rates, w in many.all_worlds():
            for p in partings(n):
                if w.is_end(p):
                    self.same(stays(w, p), tuple(None if r == p else (0, 1) for r in partings(n)))
                    self.same(meets(w, p), tuple((1, 1) if r == p else (0, 1) for r in partings(n)))
                    self.same(list(chains(w, p)), [(p,)])
                    self.same(stays(w, p, inside=p), stays(w, p))

    def test_one_name(self):
        self.same(stays(World(1)), (None,))
        self.same(stays(World(1), (0,), inside=(0,)), (None,))
        self.same(meets(World(1)), ((1, 1),))
        self.same(list(chains(World(1))), [((0,),)])
        self.same(chain_chance(World(1), [(0,)]), (1, 1))

    def test_rates_of_very_different_size(self):
        w = World(3, [(S, T, 10 ** 14), (S, W, 1), (T, W, 1)])
        self.same(stays(w), (None, (10 ** 14, 10 ** 14 + 1), (0, 1), (0, 1), (1, 10 ** 14 + 1)))
        self.same(meets(w), ((1, 1), (10 ** 14, 10 ** 14 + 1), (0, 1), (0, 1), (1, 1)))

    def test_a_start_that_is_not_below(self):
        for n in (1, 2, 3, 4):
            for p in partings(n):
                for t in partings(n):
                    if not plain.is_finer(p, t):
                        self.refuses(NotFiner, -1, stays, World(n), p, inside=t)

    def test_inside_is_passed_by_name(self):
        self.assertRaises(TypeError, stays, EXAMPLE, S, T)

    def test_inside_refused(self):
        for wrong, place in NO_PARTINGS:
            if wrong is not None:
                self.refuses(BadParting, place, stays, EXAMPLE, inside=wrong)
                self.refuses(BadParting, place, stays, EXAMPLE, (0, 1), inside=wrong)
                self.refuses(BadParting, place, stays, EXAMPLE, wrong, inside=(1,))
        self.refuses(OtherSize, 2, stays, EXAMPLE, (0, 1), inside=(0, 1, 2, 3))
        self.refuses(OtherSize, 4, stays, EXAMPLE, W, inside=(0, 1, 2, 3))
        self.refuses(OtherSize, 2, stays, EXAMPLE, inside=(0, 1))


class Meets(Case):
    def test_18_chances_of_being_met(self):
        for n, rates, w in many.all_worlds():
            for p in partings(n):
                expected = plain.chances_of_being_met(n, rates, p)
                self.same(meets(w, p), tuple(plain.told(expected[r]) for r in partings(n)))
                self.same(meets(world=w, start=list(p)), meets(w, p))
                self.same(meets(w, p)[partings(n).index(p)], (1, 1))
            self.same(meets(w), meets(w, singles(n)))
            self.same(meets(w, None), meets(w, singles(n)))

    def test_not_reached(self):
        for n, rates, w in many.all_worlds():
            for p in partings(n):
                found = reached(w, p)
                self.assertEqual([r for r, chance in zip(partings(n), meets(w, p)) if chance != (0, 1)], found)
                self.assertEqual([r for r, time in zip(partings(n), stays(w, p)) if time != (0, 1)], found)


class Chains(Case):
    def test_18_all_chains_to_an_end(self):
        for n, rates, w in many.all_worlds():
            for p in partings(n):
                ways = plain.ways_from(rates, p)
                self.same(list(chains(w, p)), sorted(chain for chain in ways if w.is_end(chain[-1])))
            self.same(list(chains(w)), list(chains(world=w, start=list(singles(n)))))

    def test_21_sum_of_the_chances(self):
        for n, rates, w in many.all_worlds():
            for p in partings(n):
                found = {chain: Fraction(*chain_chance(w, chain)) for chain in chains(w, p)}
                self.assertEqual(sum(found.values()), 1)
                for r, chance in zip(partings(n), meets(w, p)):
                    holding = sum(one for chain, one in found.items() if r in chain)
                    self.assertEqual(Fraction(*chance), holding)

    def test_the_generator_starts_anew(self):
        found = chains(EXAMPLE)
        self.same(next(found), (S, W))
        self.same(next(found), (S, T, W))
        self.assertRaises(StopIteration, next, found)
        self.same(list(chains(EXAMPLE)), [(S, W), (S, T, W)])

    def test_too_many(self):
        moves = {n: [(p, r, 1) for p, r in many.strict_pairs(n)] for n in (4, 5, 6)}
        self.assertEqual(len(list(chains(World(4, moves[4])))), 32)
        self.assertEqual(len(list(chains(World(5, moves[5])))), 436)
        self.refuses(TooMany, 9012, list, chains(World(6, moves[6])))
        self.assertEqual(len(list(chains(World(6, moves[6]), (0, 0, 1, 2, 3, 4)))), 436)

    def test_the_border_of_too_many(self):
        for wanted in (4999, 5000, 5001):
            w = world_with_chains(wanted)
            if wanted <= 5000:
                found = list(chains(w))
                self.assertEqual(len(found), wanted)
                self.assertEqual(found, sorted(set(found)))
            else:
                self.refuses(TooMany, wanted, list, chains(w))

    def test_errors_come_with_the_first_chain(self):
        for wrong in ((0, 2), None, (0, 1)):
            chains(EXAMPLE, wrong)
        self.refuses(BadParting, 1, next, chains(EXAMPLE, (0, 2)))
        self.refuses(OtherSize, 2, next, chains(EXAMPLE, (0, 1)))

    def test_partings_refused(self):
        for call in (stays, meets, lambda w, p: list(chains(w, p))):
            for wrong, place in NO_PARTINGS:
                if wrong is not None:
                    self.refuses(BadParting, place, call, EXAMPLE, wrong)
            self.refuses(OtherSize, 2, call, EXAMPLE, (0, 1))
            self.refuses(OtherSize, 4, call, EXAMPLE, (0, 1, 2, 3))


def world_with_chains(wanted):
    """All moves on six names, but from singles just so many that exactly the wanted number of chains is left."""
    first = singles(6)
    moves = [(p, r, 1) for p, r in many.strict_pairs(6) if p != first]
    left = wanted
    for r in sorted(partings(6)[:-1], key=lambda r: len(set(r)), reverse=True):
        # So many chains lead on to whole from one to five blocks.
        ways = (0, 1, 1, 4, 32, 436)[len(set(r))]
        if ways <= left:
            moves.append((first, r, 1))
            left -= ways
    return World(6, moves)


class Chances(Case):
    def test_18_chances_of_chains(self):
        for n, rates, w in many.all_worlds():
            for p in partings(n):
                for chain, chance in plain.ways_from(rates, p).items():
                    self.same(chain_chance(w, chain), plain.told(chance))
                    self.same(chain_chance(w, [list(x) for x in chain]), plain.told(chance))

    def test_chains_without_moves(self):
        self.same(chain_chance(EXAMPLE, [S, (0, 1, 1), W]), (0, 1))
        self.same(chain_chance(EXAMPLE, [S, (0, 1, 1)]), (0, 1))
        self.same(chain_chance(EXAMPLE, [(0, 1, 1), W]), (0, 1))
        self.same(chain_chance(World(3), [S, T, W]), (0, 1))

    def test_one_parting(self):
        for n, rates, w in many.all_worlds():
            for p in partings(n):
                self.same(chain_chance(w, (p,)), (1, 1))

    def test_a_chain_that_does_not_begin_at_singles_or_end_at_an_end(self):
        self.same(chain_chance(EXAMPLE, [T, W]), (1, 1))
        self.same(chain_chance(EXAMPLE, [S, T]), (2, 3))
        self.same(chain_chance(world=EXAMPLE, chain=(S, T, W)), (2, 3))
        self.same(chain_chance(EXAMPLE, [S, W]), (1, 3))

    def test_no_lists(self):
        for wrong in (None, 3, "abc", (), [], {S: T}, iter([S])):
            self.refuses(BadParting, -1, chain_chance, EXAMPLE, wrong)

    def test_partings_of_a_chain(self):
        for wrong, _ in NO_PARTINGS:
            self.refuses(BadParting, 0, chain_chance, EXAMPLE, [wrong, S])
            self.refuses(BadParting, 2, chain_chance, EXAMPLE, [W, (0, 1), wrong, None])

    def test_sizes_of_a_chain(self):
        self.refuses(OtherSize, 2, chain_chance, EXAMPLE, [(0, 1)])
        self.refuses(OtherSize, 4, chain_chance, EXAMPLE, [W, S, (0, 1, 2, 3), (0, 1)])

    def test_order_of_a_chain(self):
        self.refuses(NotFiner, 1, chain_chance, EXAMPLE, [W, S])
        self.refuses(NotFiner, 1, chain_chance, EXAMPLE, [S, S])
        self.refuses(NotFiner, 2, chain_chance, EXAMPLE, [S, T, (0, 1, 1)])
        self.refuses(NotFiner, 2, chain_chance, EXAMPLE, [S, (0, 1, 0), (0, 1, 0), S])
        self.refuses(NotFiner, 3, chain_chance, EXAMPLE, [S, (0, 1, 0), W, W])
