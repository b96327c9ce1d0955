"""[46], [47], [53], [113] and breaking.py: breaking rates, and the weights that they tell."""

from fractions import Fraction

from mergerates.breaking import breaking_rates, table_comes, wanting_at, weights_from
from mergerates.colours import row_exit
from mergerates.errors import BadNumber, BadTable
from mergerates.joins import Joins
from mergerates.partings import count_of, meet, partings, whole
from mergerates.polynomials import chance_polys
from mergerates.tables import mu
from tests import many, manyjoins, plain
from tests.case import NO_AMOUNTS, NO_INTEGERS, Case

GREAT = 10 ** 14


def some_tables(n):
    """Tables of numbers by chance: integers and fractions, above 0 and below."""
    count = len(partings(n))
    for seed, numbers in ((1, (0, 1, 2)), (2, (-1, (1, 2), (-3, 7), 0)), (3, (GREAT, (1, GREAT), 5))):
        chance = many.numbers(seed)
        for _ in range(4):
            table = [numbers[next(chance) % len(numbers)] for _ in range(count)]
            yield table
            yield [0, *table[1:]]


def weights_of(n, table):
    """The words of [47]."""
    number = {t: Fraction(*f) if isinstance(f, tuple) else Fraction(f) for t, f in zip(partings(n), table)}
    found = {}
    for r in partings(n):
        found[r] = -sum(mu(t, r) * number[t] for t in plain.below(r))
    found[partings(n)[-1]] = Fraction(0)
    return number, found


class Rates(Case):
    def test_46_breaking_rates(self):
        for n, weights, j in manyjoins.all_joins():
            expected = tuple(manyjoins.breaking_of(weights, t) for t in partings(n))
            self.same(breaking_rates(j), expected)
            self.same(breaking_rates(j=j), expected)

    def test_47_less_for_coarser_partings(self):
        for n, weights, j in manyjoins.all_joins():
            c = manyjoins.as_dict(n, breaking_rates(j))
            self.same(c[whole(n)], 0)
            for p, t in plain.comparable(n):
                self.assertGreaterEqual(c[p], c[t])

    def test_47_the_weights_back(self):
        for n, weights, j in manyjoins.all_joins():
            table = breaking_rates(j)
            self.same(weights_from(n, table), tuple((weight, 1) for weight in j.weights))
            self.same(table_comes(n, table), True)
            self.same(wanting_at(n, list(table)), None)
            part = [plain.told(Fraction(rate, 7)) for rate in table]
            self.same(weights_from(n, part), tuple(plain.told(Fraction(weight, 7)) for weight in j.weights))
            self.same(table_comes(n, part), True)

    def test_53_meets(self):
        for n, weights, j in manyjoins.all_joins():
            c = manyjoins.as_dict(n, breaking_rates(j))
            for t in partings(n):
                for s in partings(n):
                    both = [x for x in manyjoins.strokes_of(weights)
                            if not plain.is_finer(x, t) and not plain.is_finer(x, s)]
                    self.assertLessEqual(c[meet(t, s)], c[t] + c[s])
                    self.assertEqual(c[meet(t, s)] == c[t] + c[s], both == [])


class Telling(Case):
    def test_47_any_table(self):
        for n in (1, 2, 3, 4):
            for table in some_tables(n):
                number, expected = weights_of(n, table)
                self.same(weights_from(n, table), tuple(plain.told(weight) for weight in expected.values()))
                self.same(weights_from(n=n, table=tuple(table)), weights_from(n, table))

    def test_47_which_tables_come(self):
        found = []
        for n in (1, 2, 3, 4):
            for table in some_tables(n):
                number, expected = weights_of(n, table)
                below = [r for r in partings(n) if expected[r] < 0]
                wanting = whole(n) if number[whole(n)] != 0 else min(below, default=None)
                self.same(wanting_at(n, table), wanting)
                self.same(table_comes(n, table), wanting is None)
                if wanting is None:
                    # The sums give weights of which the table is the table of breaking rates.
                    for t in partings(n):
                        self.assertEqual(number[t], manyjoins.breaking_of(expected, t))
                found.append(wanting)
        self.assertIn(None, found)
        self.assertIn((0, 0, 1), found)
        self.assertIn((0, 0, 0), found)

    def test_47_one_rate_changed(self):
        for n, weights, j in manyjoins.all_joins((2, 3)):
            for place in range(len(j.weights)):
                for step in (-1, 1):
                    table = list(breaking_rates(j))
                    table[place] += step
                    number, expected = weights_of(n, table)
                    comes = number[whole(n)] == 0 and min(expected.values()) >= 0
                    self.same(table_comes(n, table), comes)

    def test_one_name(self):
        self.same(weights_from(1, (5,)), ((0, 1),))
        self.same((table_comes(1, (0,)), table_comes(1, (5,)), table_comes(1, ((-1, 2),))), (True, False, False))
        self.same((wanting_at(1, (0,)), wanting_at(1, ((1, 3),))), (None, (0,)))

    def test_example(self):
        j = Joins.of_pairs(3, [(0, 1, 1), (1, 2, 1)])
        self.same([j.weights, j.top, breaking_rates(j)], [(0, 1, 0, 1, 0), (0, 0, 0), (0, 1, 2, 1, 2)])
        table = (0, 1, 1, 1, 2)
        self.same([weights_from(3, table), wanting_at(3, table)],
                  [((-1, 1), (1, 1), (1, 1), (1, 1), (0, 1)), (0, 0, 0)])

    def test_whole_comes_before_weights_below_0(self):
        self.same(wanting_at(3, (1, 1, 1, 1, 2)), (0, 0, 0))
        self.same(wanting_at(3, (0, 0, 1, 1, 0)), (0, 1, 0))

    def test_great_and_small_rates(self):
        j = Joins(6, [GREAT] + [1] * 201 + [0])
        self.same(weights_from(6, breaking_rates(j)), tuple((weight, 1) for weight in j.weights))
        self.same(table_comes(6, breaking_rates(j)), True)
        top = 10 ** 40 - 1
        self.same(weights_from(2, (0, (1, top))), ((1, top), (0, 1)))


class Cuts(Case):
    def test_113_the_rate_at_a_cut_is_the_exit_there(self):
        for n, weights, j in manyjoins.all_joins((2, 3, 4)):
            for t in partings(n):
                if count_of(t) == 2:
                    self.same(row_exit(n, j.weights, t), (j.breaking(t), 1))

    def test_113_two_colours(self):
        for n, weights, j in manyjoins.all_joins((2, 3, 4)):
            found = {}
            for t, f in zip(partings(n), chance_polys(j)):
                for e, c in f:
                    found[e] = found.get(e, 0) + c * 2 ** count_of(t)
            cuts = [{j.breaking(t): 2} for t in partings(n) if count_of(t) == 2]
            self.same(manyjoins.sum_of_polys([found]), manyjoins.sum_of_polys([{0: 2}, *cuts]))

    def test_113_two_cuts(self):
        for n, weights, j in manyjoins.light_joins((2, 3, 4)):
            cuts = [t for t in partings(n) if count_of(t) == 2]
            for u in ((1, 2), (1, 50)):
                at = manyjoins.at_time(n, weights, u)
                below = {t: sum(at[x] for x in plain.below(t)) for t in partings(n)}
                for t in cuts:
                    for s in cuts:
                        shared = any(not plain.is_finer(x, t) and not plain.is_finer(x, s)
                                     for x in manyjoins.strokes_of(weights))
                        found, product = below[meet(t, s)], below[t] * below[s]
                        self.assertEqual((found > product, found == product), (shared, not shared))


class Refusals(Case):
    def test_tables(self):
        for call in (weights_from, table_comes, wanting_at):
            for wrong in (*NO_INTEGERS, 0, 7):
                self.refuses(BadNumber, "n", call, wrong, None)
            for wrong in (None, 3, "ab", {}, (), (0,), (0, 0, 0), iter((0, 0))):
                self.refuses(BadTable, -1, call, 2, wrong)
            for wrong in NO_AMOUNTS:
                self.refuses(BadTable, 0, call, 2, (wrong, wrong))
                self.refuses(BadTable, 1, call, 2, (5, wrong))
