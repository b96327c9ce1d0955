"""[112] to [114], and [31] and [74] for two colours: what two colours tell of worlds and of join worlds."""

from fractions import Fraction
from itertools import combinations

from mergerates.chances import one_time
from mergerates.colouring import colour_sum
from mergerates.halves import cut_rates, cuts, even_lots, halves
from mergerates.joins import Joins
from mergerates.likejoins import joined_row
from mergerates.likeness import same_chains
from mergerates.means import time_below
from mergerates.partings import blocks_of, partings
from mergerates.runs import stays
from mergerates.steady import breaking_table, steady_to
from mergerates.twins import has_true_twin, same_to_two, twin
from tests import many, manyjoins, plain
from tests.case import Case
from tests.manyjoins import exact

MOMENTS = ((1, 2), (1, 50), (99, 100))


def two_blocks(n):
    return [p for p in partings(n) if len(set(p)) >= 2]


def is_steady(rates, t):
    """The words of [31]."""
    return len({plain.exit_of(rates, p, plain.below(t)) for p in plain.below(t)}) == 1


class Worlds(Case):
    def test_112_steady_to_two(self):
        answers = []
        for n, rates, w in many.all_worlds((2, 3, 4)):
            alike = [halves(len(set(p)), w.row_at(p)) == halves(len(set(p)), joined_row(w, p)) for p in two_blocks(n)]
            expected = all(is_steady(rates, t) for t in cuts(n))
            self.assertEqual(all(alike), expected)
            self.assertEqual(all(alike), steady_to(w) >= 2)
            for p, found in zip(two_blocks(n), alike):
                self.same(same_to_two(len(set(p)), w.row_at(p), joined_row(w, p)), found)
            answers.append(expected)
        self.assertEqual(set(answers), {True, False})

    def test_112_halves_of_joined_rows(self):
        for n, rates, w in many.all_worlds((2, 3, 4)):
            first = dict(zip(even_lots(n), halves(n, w.first_rates())))
            for p in two_blocks(n):
                b = len(set(p))
                for M, number in zip(even_lots(b), halves(b, joined_row(w, p))):
                    held = [K for K in first if all(len(set(K) & set(block)) % 2 == int(label in M)
                                                    for label, block in enumerate(blocks_of(p)))]
                    self.same(number, plain.told(sum((exact(first[K]) for K in held), Fraction(0))))

    def test_74_two_colours(self):
        asked = 0
        for n, rates, w in many.all_worlds((2, 3, 4)):
            ends = [p for p in partings(n) if w.is_end(p)]
            if steady_to(w) >= 2 and ends == [partings(n)[0]]:
                time = dict(zip(partings(n), stays(w)))
                found = sum(exact(time[p]) * (2 ** (len(set(p)) - 1) - 1) for p in two_blocks(n))
                rates_at_cuts = cut_rates(n, w.first_rates())
                self.same(rates_at_cuts, tuple((number, 1) for t, number in zip(partings(n), breaking_table(w))
                                               if len(set(t)) == 2))
                self.assertEqual(found, sum(1 / exact(rate) for rate in rates_at_cuts))
                asked += 1
        self.assertGreater(asked, 20)


class JoinWorlds(Case):
    def test_113_breaking_rates_at_cuts(self):
        for n, weights, j in manyjoins.all_joins((2, 3, 4)):
            self.same(cut_rates(n, j.weights), tuple((j.breaking(t), 1) for t in cuts(n)))

    def test_113_sums_by_two_colours(self):
        for n, weights, j in manyjoins.light_joins((2, 3, 4)):
            for u in MOMENTS:
                at = manyjoins.at_time(n, weights, u)
                found = sum(chance * 2 ** len(set(t)) for t, chance in at.items())
                self.assertEqual(found, 2 + 2 * sum(Fraction(*u) ** j.breaking(t) for t in cuts(n)))
                self.same(colour_sum(one_time(j, u), 2), plain.told(found))

    def test_113_two_cuts(self):
        answers = []
        for n, weights, j in manyjoins.light_joins((2, 3, 4)):
            for u in MOMENTS:
                at = manyjoins.at_time(n, weights, u)
                for t, s in combinations(cuts(n), 2):
                    both = sum(f for x, f in at.items() if plain.is_finer(x, t) and plain.is_finer(x, s))
                    alone = [sum(f for x, f in at.items() if plain.is_finer(x, cut)) for cut in (t, s)]
                    shared = any(not plain.is_finer(x, t) and not plain.is_finer(x, s)
                                 for x in manyjoins.strokes_of(weights))
                    self.assertEqual((both > alone[0] * alone[1], both == alone[0] * alone[1]), (shared, not shared))
                    answers.append(shared)
        self.assertEqual(set(answers), {True, False})

    def test_114_even_twins(self):
        answers = []
        for n, weights, j in manyjoins.light_joins((2, 3, 4)):
            if has_true_twin(n, j.weights):
                told = [exact(number) * 2 ** (n - 1) for number in twin(n, j.weights)]
                self.assertEqual([number.denominator for number in told], [1] * len(told))
                even = Joins(n, [int(number) for number in told])
                i = Joins(n, j.weights, times=2 ** (n - 1))
                self.same([time_below(even, t) for t in cuts(n)], [time_below(i, t) for t in cuts(n)])
                if sum(i.weights) <= 200:
                    for u in MOMENTS:
                        self.same(colour_sum(one_time(even, u), 2), colour_sum(one_time(i, u), 2))
                own = twin(n, j.weights) == tuple((weight, 1) for weight in j.weights)
                self.same(same_chains(even, i), own)
                self.same(same_chains(i, even), own)
                answers.append((n, own))
        self.assertLessEqual({(2, True), (3, True), (3, False), (4, True), (4, False)}, set(answers))
