"""[82] to [85] and nesting.py: partings that nest, nested join worlds, meeting rates and lots told back."""

from fractions import Fraction
from itertools import combinations, product

from mergerates.again import rest_joins, stays_joins
from mergerates.chances import one_time
from mergerates.errors import BadParting, BadTable, BadTriple, OtherSize
from mergerates.joins import Joins
from mergerates.missing import chances_of, strokes_of
from mergerates.nesting import lots_from_rates, meeting_rates, nest, nested, union_is_parting, unnested
from mergerates.partings import join, partings, singles
from mergerates.polynomials import open_poly
from mergerates.splits import apart_poly, memory_free
from tests import manyjoins, plain
from tests.case import NO_PARTINGS, Case

RATES = [(None, 3, 1), (3, None, 1), (1, 1, None)]


def block_of(p, z):
    return {name for name in range(len(p)) if p[name] == p[z]}


def wrong_name(p, r):
    """The words of [82]: the least name at which neither block holds the other, None if there is none."""
    for z in range(len(p)):
        a, b = block_of(p, z), block_of(r, z)
        if not a <= b and not b <= a:
            return z
    return None


def is_nested(weights):
    strokes = manyjoins.strokes_of(weights)
    return all(wrong_name(x, y) is None for x, y in product(strokes, repeat=2))


def rates_of(n, weights):
    """The words of [83]."""
    return [tuple(None if a == b else sum(weights[x] for x in manyjoins.strokes_of(weights) if x[a] == x[b])
                  for b in range(n)) for a in range(n)]


def lots_by_rates(table):
    """The words of [84], one whole number v after the other."""
    n = len(table)
    most = max((rate for row in table for rate in row if rate is not None), default=0)
    found = {}
    for v in range(1, most + 1):
        for name in range(n):
            lot = tuple(b for b in range(n) if b == name or table[name][b] >= v)
            if len(lot) > 1 and lot[0] == name:
                found[lot] = found.get(lot, 0) + 1
    return sorted(found.items())


def bad_triple(table):
    for a, b, c in combinations(range(len(table)), 3):
        rates = sorted([table[a][b], table[a][c], table[b][c]])
        if rates[0] < rates[1]:
            return (a, b, c)
    return None


def rate_tables(n, numbers):
    """All tables of meeting rates among n names with these numbers."""
    pairs = list(combinations(range(n), 2))
    for rates in product(numbers, repeat=len(pairs)):
        told = dict(zip(pairs, rates))
        yield [tuple(None if a == b else told[min(a, b), max(a, b)] for b in range(n)) for a in range(n)]


class Nesting(Case):
    def test_82_two_partings(self):
        for n in (1, 2, 3, 4):
            for p, r in product(partings(n), repeat=2):
                expected = wrong_name(p, r) is None
                self.same(nest(p, r), expected)
                self.same(nest(p=list(p), r=list(r)), expected)
                self.same(union_is_parting(p, r), expected)
                self.same(union_is_parting(p=list(p), r=list(r)), expected)

    def test_82_union(self):
        for n in (2, 3, 4):
            for p, r in product(partings(n), repeat=2):
                union = plain.together(p) | plain.together(r)
                self.same(union_is_parting(p, r), plain.together(join(p, r)) == union)

    def test_82_unnested(self):
        for n, weights, j in manyjoins.all_joins():
            found = sorted((x, y) for x, y in combinations(manyjoins.strokes_of(weights), 2)
                           if wrong_name(x, y) is not None)
            expected = (*found[0], wrong_name(*found[0])) if found else None
            self.same(unnested(j), expected)
            self.same(unnested(j=j), expected)
            self.same(nested(j), expected is None)
            self.same(nested(j=j), is_nested(weights))

    def test_82_every_lot_stays(self):
        answers = []
        for n, weights, j in manyjoins.all_joins():
            lots = plain.all_lots(n)[1:]
            self.same(nested(j), all(stays_joins(j, lot) for lot in lots))
            self.same(nested(j), all(stays_joins(j, lot) for lot in lots if len(lot) == 2))
            answers.append(nested(j))
        self.assertEqual(set(answers), {True, False})

    def test_82_names_that_meet_with_memory(self):
        for n, weights, j in manyjoins.all_joins():
            for x, y in combinations(manyjoins.strokes_of(weights), 2):
                z = wrong_name(x, y)
                if z is not None:
                    for a, b in product(block_of(x, z) - block_of(y, z), block_of(y, z) - block_of(x, z)):
                        self.same(memory_free(j, (a,), (b,)), False)

    def test_partings_refused(self):
        for call in (nest, union_is_parting):
            for wrong, place in NO_PARTINGS:
                self.refuses(BadParting, place, call, wrong, (1,))
                self.refuses(BadParting, place, call, (0, 1), wrong)
            self.refuses(OtherSize, 3, call, (0, 1), (0, 1, 2))
            self.refuses(OtherSize, 1, call, (0, 1), (0,))


class Rates(Case):
    def test_83_meeting_rates(self):
        for n, weights, j in manyjoins.all_joins():
            self.same(meeting_rates(j), rates_of(n, weights))
            self.same(meeting_rates(j=j), rates_of(n, weights))
        self.same(meeting_rates(Joins(1, (0,))), [(None,)])

    def test_each_list_is_new(self):
        j = Joins.of_pairs(3, [(0, 1, 1)])
        meeting_rates(j).append("x")
        self.same(meeting_rates(j), [(None, 1, 0), (1, None, 0), (0, 0, None)])

    def test_83_apart(self):
        for n, weights, j in manyjoins.all_joins((2, 3, 4)):
            if nested(j):
                for a, b in combinations(range(n), 2):
                    self.same(apart_poly(j, (a,), (b,)).terms, ((meeting_rates(j)[a][b], 1),))

    def test_83_the_rest(self):
        for n, weights, j in manyjoins.all_joins():
            if nested(j):
                rates = meeting_rates(j)
                for lot in plain.all_lots(n)[1:]:
                    expected = [tuple(rates[a][b] for b in lot) for a in lot]
                    self.same(meeting_rates(rest_joins(j, lot)), expected)

    def test_83_strokes_of_the_trace(self):
        for n, weights, j in manyjoins.light_joins():
            if nested(j):
                for lot in plain.all_lots(n)[1:]:
                    told = {}
                    for x in manyjoins.strokes_of(weights):
                        y = plain.trace_on(x, lot)
                        if y != singles(len(lot)):
                            told[y] = told.get(y, Fraction(1)) * Fraction(2, 3) ** weights[x]
                    expected = sorted((y, plain.told(miss)) for y, miss in told.items())
                    found = one_time(j, (2, 3)).trace_on(lot)
                    self.same(strokes_of(found), expected)
                    self.assertEqual(chances_of(len(lot), expected), found)

    def test_99_mean_times(self):
        for n, weights, j in manyjoins.all_joins((2, 3, 4)):
            if nested(j):
                for a, b in combinations(range(n), 2):
                    rate = meeting_rates(j)[a][b]
                    r = manyjoins.lot_label(n, (a, b))
                    self.same(open_poly(j, r).mean(), None if rate == 0 else (1, rate))


class Lots(Case):
    def test_84_lots_back(self):
        for n, entries in ((2, [((0, 1), 4)]), (3, [((0, 1), 2), ((0, 1, 2), 1)]), (4, [((0, 1), 1), ((2, 3), 5)]),
                           (6, [((0, 5), 1), ((0, 1, 5), 900), ((2, 3), 1), ((2, 3, 4), 2), (tuple(range(6)), 3)])):
            j = Joins.of_lots(n, entries)
            self.same(lots_from_rates(meeting_rates(j)), sorted(entries))
            self.same(lots_from_rates(table=[list(row) for row in meeting_rates(j)]), sorted(entries))
            self.same(lots_from_rates(tuple(meeting_rates(j))), sorted(entries))

    def test_84_nested_worlds_of_lots(self):
        for n, weights, j in manyjoins.all_joins():
            lots = [name for x in manyjoins.strokes_of(weights) for name in [set(sum(map(list, plain.together(x)), []))]]
            alone = all(manyjoins.lot_label(n, sorted(lot)) == x for lot, x in zip(lots, manyjoins.strokes_of(weights)))
            if nested(j) and alone and max(j.weights) <= 1000:
                self.assertEqual(Joins.of_lots(n, lots_from_rates(meeting_rates(j))), j)

    def test_84_which_rates_come(self):
        for n, numbers in ((1, (0,)), (2, (0, 1, 5)), (3, (0, 1, 2, 4)), (4, (0, 1, 3))):
            for table in rate_tables(n, numbers):
                triple = bad_triple(table)
                if triple is not None:
                    self.refuses(BadTriple, triple, lots_from_rates, table)
                else:
                    found = lots_from_rates(table)
                    self.same(found, lots_by_rates(table))
                    j = Joins.of_lots(n, found)
                    self.same((nested(j), meeting_rates(j)), (True, table))

    def test_84_great_rates(self):
        table = [(None, 10 ** 14, 7), (10 ** 14, None, 7), (7, 7, None)]
        self.same(lots_from_rates(table), [((0, 1), 10 ** 14 - 7), ((0, 1, 2), 7)])

    def test_example(self):
        self.same(lots_from_rates(RATES), [((0, 1), 2), ((0, 1, 2), 1)])
        self.same(lots_from_rates([(None,)]), [])
        self.same(lots_from_rates([(None, 0), (0, None)]), [])

    def test_refused(self):
        for wrong in (None, 3, "ab", {}, iter(RATES), (), [], [(None,) + (0,) * 6] * 7, [()] * 7):
            self.refuses(BadTable, -1, lots_from_rates, wrong)
        for wrong in (None, 3, "abc", {0: None}, (), (None, 3), (None, 3, 1, 1), (0, 3, 1), (None, None, 1),
                      (None, 3, -1), (None, True, 1), (None, 3, 1.0), (None, "3", 1), (None, 3, (1, 1))):
            self.refuses(BadTable, 0, lots_from_rates, [wrong, None, None])
        for wrong in (None, (3, None), (2, None, 1), (3, 0, 1), (3, None, None), (3, None, -1), (True, None, 1)):
            self.refuses(BadTable, 1, lots_from_rates, [RATES[0], wrong, None])
        for wrong in ((0, 1, None), (1, 0, None), (1, 1, 0), (1, 1)):
            self.refuses(BadTable, 2, lots_from_rates, [*RATES[:2], wrong])

    def test_rows_come_before_triples(self):
        self.refuses(BadTriple, (0, 1, 2), lots_from_rates, [(None, 3, 1), (3, None, 2), (1, 2, None)])
        self.refuses(BadTable, 2, lots_from_rates, [(None, 3, 1), (3, None, 2), (1, 1, None)])
        last = [[None, 5, 5, 5], [5, None, 9, 7], [5, 9, None, 8], [5, 7, 8, None]]
        self.refuses(BadTriple, (1, 2, 3), lots_from_rates, last)
        before = [list(row) for row in last]
        self.refuses(BadTriple, (1, 2, 3), lots_from_rates, last)
        self.same(last, before)


class Sizes(Case):
    def test_six_names(self):
        j = Joins(6, [1] * 202 + [0])
        self.same(unnested(j), ((0, 0, 0, 0, 0, 1), (0, 0, 0, 0, 1, 0), 0))
        self.same(set(rate for row in meeting_rates(j) for rate in row), {None, 52})
        great = Joins.of_lots(6, [((0, 1), 10 ** 14), ((0, 1, 2), 10 ** 14), ((3, 4), 1)])
        self.same((nested(great), meeting_rates(great)[0]), (True, (None, 2 * 10 ** 14, 10 ** 14, 0, 0, 0)))
