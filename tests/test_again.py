"""[76], [79] to [81], [85], [100] and again.py: names left out of a join world."""

from fractions import Fraction
from itertools import combinations
from math import comb

from mergerates.again import failing_strokes, leavable, may_leave, rest_joins, stays_joins, traced_chances
from mergerates.breaking import table_comes
from mergerates.chances import Chances, one_time
from mergerates.errors import BadLot, BadNumber, NotJoins, TooMany
from mergerates.joins import Joins
from mergerates.leaving import leaving_time
from mergerates.means import time_below
from mergerates.partings import join_all, lot_parting, partings, singles, trace
from mergerates.polynomials import chance_polys, open_poly
from mergerates.serving import serves
from mergerates.splits import extensions, memory_free, splits_of
from mergerates.tracing import goes_through
from tests import manyjoins, plain
from tests.case import NO_AMOUNTS, NO_INTEGERS, Case
from tests.manyjoins import MOMENTS, sum_of_polys

PATH = Joins.of_pairs(3, [(0, 1, 1), (1, 2, 1)])
LOTS_81 = Joins.of_lots(4, [((0, 1), 1), ((0, 2), 1), ((1, 2), 1), ((1, 3), 1)])
TURNS_81 = Joins.of_lots(4, [((0, 1, 2), 1), ((0, 1, 3), 1)])


def traced_polys(n, weights, lot):
    """For each parting of the lot's names the terms of the chance of X|A, from the words of [62] and [70]."""
    found = {y: [] for y in partings(len(lot))}
    for t, f in manyjoins.polys_at(n, weights).items():
        found[plain.trace_on(t, lot)].append(f)
    return {y: sum_of_polys(polys) for y, polys in found.items()}


def is_joins(b, polys):
    """The words of [76]: a join world on b names has these chances at each u."""
    rates = []
    for y in partings(b):
        below = sum_of_polys([dict(polys[x]) for x in plain.below(y)])
        if len(below) != 1 or below[0][1] != 1:
            return False
        rates.append(below[0][0])
    return table_comes(b, rates)


def first_failing(strokes, most, lot):
    """The words of failing_strokes in the interface."""
    for size in range(1, most + 1):
        for chosen in combinations(sorted(strokes), size):
            if not goes_through(chosen, lot):
                return chosen
    return None


def with_lots(sizes=manyjoins.SIZES):
    for n, weights, j in manyjoins.all_joins(sizes):
        for lot in plain.all_lots(n)[1:]:
            yield n, weights, j, lot


class Again(Case):
    def test_76_joins_again(self):
        answers = []
        for n, weights, j, lot in with_lots():
            expected = is_joins(len(lot), traced_polys(n, weights, lot))
            self.same(stays_joins(j, lot), expected)
            self.same(stays_joins(j=j, lot=list(lot)[::-1]), expected)
            answers.append(expected)
        self.assertEqual(set(answers), {True, False})

    def test_79_by_splits(self):
        for n, weights, j, lot in with_lots():
            expected = all(memory_free(j, side, other) for side, other in splits_of(lot))
            self.same(stays_joins(j, lot), expected)

    def test_79_failing_strokes(self):
        for n, weights, j, lot in with_lots():
            strokes = manyjoins.strokes_of(weights)
            most = n - len(lot) + 1
            many = sum(comb(len(strokes), size) for size in range(1, most + 1))
            if many > 4000:
                self.refuses(TooMany, many, failing_strokes, j, lot)
            else:
                found = failing_strokes(j, lot)
                self.same(found, first_failing(strokes, most, lot))
                self.same(found is None, stays_joins(j, lot))
                self.same(failing_strokes(j=j, lot=list(lot)[::-1]), found)

    def test_79_the_rest(self):
        for n, weights, j, lot in with_lots():
            if stays_joins(j, lot):
                i = rest_joins(j, lot)
                self.assertIs(type(i), Joins)
                expected = {y: 0 for y in partings(len(lot))}
                for x, weight in weights.items():
                    expected[plain.trace_on(x, lot)] += weight
                expected[singles(len(lot))] = 0
                self.same(i.weights, tuple(expected.values()))
                self.assertEqual(rest_joins(j=j, lot=list(lot)[::-1]), i)
                polys = traced_polys(n, weights, lot)
                self.same([f.terms for f in chance_polys(i)], [polys[y] for y in partings(len(lot))])
            elif len(manyjoins.strokes_of(weights)) <= 15:
                self.refuses(NotJoins, join_all(*failing_strokes(j, lot)), rest_joins, j, lot)

    def test_79_breaking_rates_of_the_rest(self):
        for n, weights, j, lot in with_lots():
            if stays_joins(j, lot):
                i = rest_joins(j, lot)
                for side, other in splits_of(lot):
                    rates = [sum(weights[x] for x in manyjoins.strokes_of(weights)
                                 if any(x[a] == x[b] for a in first for b in second))
                             for first, second in extensions(n, side, other)]
                    cut = [0 if name in side else 1 for name in lot]
                    self.same(i.breaking(cut), min(rates))

    def test_79_mean_times_of_the_rest(self):
        for n, weights, j, lot in with_lots():
            if stays_joins(j, lot):
                i = rest_joins(j, lot)
                for t in partings(len(lot))[1:]:
                    family = [p for p in partings(n) if plain.is_finer(plain.trace_on(p, lot), t)]
                    self.same(time_below(i, t), leaving_time(j, family, singles(n)))

    def test_all_names_and_one(self):
        for n, weights, j in manyjoins.all_joins():
            names = tuple(range(n))
            self.assertEqual(rest_joins(j, names), j)
            self.same((stays_joins(j, names), failing_strokes(j, names)), (True, None))
            for name in names:
                self.same(rest_joins(j, (name,)).weights, (0,))
                self.same(stays_joins(j, [name]), True)

    def test_too_many(self):
        # The fewer names stay, the more strokes may be needed: up to six of twelve where one stays of six.
        twelve = Joins(6, [1] * 12 + [0] * 191)
        for size, many in ((1, 2509), (2, 1585), (3, 793), (4, 298), (5, 78), (6, 12)):
            self.assertEqual(sum(comb(12, k) for k in range(1, 8 - size)), many)
            self.same(failing_strokes(twelve, tuple(range(size))) is None,
                      stays_joins(twelve, tuple(range(size))))
        thirteen = Joins(6, [1] * 13 + [0] * 190)
        self.refuses(TooMany, sum(comb(13, k) for k in range(1, 7)), failing_strokes, thirteen, (0,))
        self.refuses(TooMany, sum(comb(13, k) for k in range(1, 7)), failing_strokes, thirteen, [5])
        # Elsewhere it is no question of how many tuples there are.
        self.same((stays_joins(thirteen, (0,)), rest_joins(thirteen, (0,)).weights), (True, (0,)))

    def test_the_border_of_too_many(self):
        # Two names left out: up to three strokes. 28 strokes give 3682 such tuples, 29 give 4089.
        for many, tuples in ((28, 3682), (29, 4089)):
            j = Joins.of_lots(6, [(lot, 1) for size in (2, 3) for lot in combinations(range(6), size)][:many])
            self.assertEqual((len(j.strokes()), sum(comb(many, k) for k in (1, 2, 3))), (many, tuples))
            if tuples > 4000:
                self.refuses(TooMany, tuples, failing_strokes, j, (0, 1, 2, 3))
                self.refuses(TooMany, tuples, rest_joins, j, (0, 1, 2, 3))
            else:
                found = failing_strokes(j, (0, 1, 2, 3))
                self.same(found, failing_of(j, (0, 1, 2, 3)))
                self.refuses(NotJoins, join_all(*found), rest_joins, j, (0, 1, 2, 3))

    def test_examples(self):
        self.same([leavable(PATH), failing_strokes(PATH, (0, 2)), rest_joins(PATH, (1, 2)).weights],
                  [(0, 2), ((0, 0, 1), (0, 1, 1)), (1, 0)])

    def test_lots_refused(self):
        for call in (stays_joins, failing_strokes, rest_joins, lambda j, lot: traced_chances(j, lot, 1)):
            for wrong in (None, 3, "01", {0: 0}, (), [], iter((0,))):
                self.refuses(BadLot, -1, call, PATH, wrong)
            for wrong in (3, -1, None, True, 1.0, 0):
                self.refuses(BadLot, 1, call, PATH, (0, wrong, 9))
        # The lot is looked at before the tuples are counted.
        self.refuses(BadLot, 0, failing_strokes, Joins(6, [1] * 202 + [0]), (6,))


class Leaving(Case):
    def test_80_one_name(self):
        for n, weights, j in manyjoins.all_joins():
            found = []
            for z in range(n):
                if n == 1:
                    self.refuses(BadLot, -1, may_leave, j, z)
                else:
                    rest = [name for name in range(n) if name != z]
                    self.same(may_leave(j, z), stays_joins(j, rest))
                    self.same(may_leave(j=j, z=z), may_leave(j, z))
                    self.same(may_leave(j, z), all_go(n, weights, z))
                    if may_leave(j, z):
                        found.append(z)
            self.same(leavable(j), tuple(found))
            self.same(leavable(j=j), tuple(found))

    def test_80_lots(self):
        for n, weights, j in manyjoins.all_joins((2, 3, 4)):
            touched = [set(a for pair in plain.together(x) for a in pair) for x in manyjoins.strokes_of(weights)]
            lots = [lot_parting(sorted(names), n) for names in touched]
            if lots == manyjoins.strokes_of(weights):
                for z in range(n):
                    at = [names for names in touched if z in names]
                    expected = all(a & b - {z} for a, b in combinations(at, 2))
                    self.same(may_leave(j, z), expected)

    def test_81_in_turn(self):
        for n, weights, j in manyjoins.all_joins((3, 4)):
            for z in leavable(j):
                rest = [name for name in range(n) if name != z]
                i = rest_joins(j, rest)
                for place in leavable(i):
                    last = [name for name in rest if name != rest[place]]
                    self.same(stays_joins(j, last), True)
                    self.assertEqual(rest_joins(j, last), rest_joins(i, [k for k in range(n - 1) if k != place]))

    def test_81_nothing_more_follows(self):
        self.same([may_leave(LOTS_81, 0), may_leave(LOTS_81, 2), stays_joins(LOTS_81, (1, 3))], [False, False, True])
        self.same([may_leave(TURNS_81, 0), may_leave(TURNS_81, 1), stays_joins(TURNS_81, (2, 3))],
                  [True, True, False])

    def test_85_lots_of_one_size(self):
        for n in (2, 3, 4, 5):
            for k in range(2, n + 1):
                lots = [(lot, 1 + place) for place, lot in enumerate(combinations(range(n), k))]
                expected = tuple(range(n)) if 2 * k >= n + 2 else ()
                self.same(leavable(Joins.of_lots(n, lots)), expected)

    def test_names_refused(self):
        for wrong in (*NO_INTEGERS, -1, 3):
            self.refuses(BadLot, 0, may_leave, PATH, wrong)
        for wrong in (*NO_INTEGERS, -1, 1):
            self.refuses(BadLot, 0, may_leave, Joins(1, (0,)), wrong)
        self.refuses(BadLot, -1, may_leave, Joins(1, (0,)), 0)
        self.same(leavable(Joins(1, (0,))), ())

    def test_six_names(self):
        j = Joins(6, [1] * 202 + [0])
        self.same(leavable(j), ())
        self.refuses(TooMany, comb(202, 1) + comb(202, 2), rest_joins, j, (0, 1, 2, 3, 4))
        # By 5 the strokes of two pairs bring 0 and 1 together.
        pairs = Joins.of_pairs(6, [(0, 5, 1), (5, 1, 1), (2, 3, 1)])
        self.refuses(NotJoins, (0, 0, 1, 2, 3, 0), rest_joins, pairs, (0, 1, 2, 3, 4))
        whole_alone = Joins(6, [7] + [0] * 202)
        self.same(rest_joins(whole_alone, (5, 1, 3)).weights, (7, 0, 0, 0, 0))


def all_go(n, weights, z):
    """The words of [80]."""
    others = [name for name in range(n) if name != z]
    strokes = [x for x in manyjoins.strokes_of(weights) if x.count(x[z]) > 1]
    for x in strokes:
        for y in strokes:
            near = [name for name in others if x[name] == x[z] or y[name] == y[z]]
            joined = plain.join_of([plain.trace_on(x, others), plain.trace_on(y, others)])
            if len({joined[others.index(name)] for name in near}) > 1:
                return False
    return True


class Traced(Case):
    def test_traced_chances(self):
        for n, weights, j in manyjoins.light_joins((1, 2, 3)):
            for lot in plain.all_lots(n)[1:]:
                for u in MOMENTS:
                    at = manyjoins.at_time(n, weights, u)
                    expected = {y: Fraction(0) for y in partings(len(lot))}
                    for t, chance in at.items():
                        expected[plain.trace_on(t, lot)] += chance
                    found = traced_chances(j, lot, u)
                    self.assertIs(type(found), Chances)
                    self.same(found.table, tuple(plain.told(chance) for chance in expected.values()))
                    self.assertEqual(traced_chances(j=j, lot=list(lot)[::-1], u=u), found)

    def test_79_the_rest_at_a_time(self):
        for n, weights, j in manyjoins.light_joins():
            for lot in plain.all_lots(n)[1:]:
                if stays_joins(j, lot):
                    for u in ((1, 2), (99, 100), 1):
                        self.assertEqual(traced_chances(j, lot, u), one_time(rest_joins(j, lot), u))

    def test_traced_refused(self):
        great = Joins(3, (401, 0, 0, 0, 0))
        for wrong in (*NO_AMOUNTS, 0, -1, 2, (3, 2)):
            self.refuses(BadNumber, "u", traced_chances, great, None, wrong)
        self.refuses(BadLot, -1, traced_chances, great, (), 1)
        self.refuses(BadLot, 0, traced_chances, great, (3,), (1, 2))
        self.refuses(TooMany, 401, traced_chances, great, (0,), (1, 2))
        self.refuses(TooMany, 401, traced_chances, great, (0, 1, 2), 1)

    def test_100_questions_of_a_rest(self):
        for n, weights, j in manyjoins.light_joins((2, 3, 4)):
            for lot in plain.all_lots(n)[2:]:
                if len(lot) > 1 and stays_joins(j, lot):
                    i = rest_joins(j, lot)
                    for y in partings(len(lot)):
                        r = inside_lot(n, lot, y)
                        self.assertEqual(trace(r, lot), y)
                        self.assertEqual(open_poly(j, r), open_poly(i, y))
                        self.same(one_time(j, (2, 3)).above(r), one_time(i, (2, 3)).above(y))
                        for x in manyjoins.strokes_of(weights):
                            z = trace(x, lot)
                            expected = z != singles(len(lot)) and serves(i, z, y)
                            self.same(serves(j, x, r), expected)


def inside_lot(n, lot, y):
    """The parting whose blocks of two or more names are those of y in the lot."""
    pairs = {(lot[a], lot[b]) for a, b in plain.together(y)}
    return plain.parting_with(n, pairs)


class Chosen(Case):
    def test_the_fewest_strokes_the_least_of_them(self):
        # Two strokes bring 0 and 2 together by 1, three do it by 3 and 4.
        j = Joins.of_pairs(5, [(0, 3, 1), (3, 4, 1), (4, 2, 1), (0, 1, 1), (1, 2, 1)])
        self.same(failing_strokes(j, (0, 2)), ((0, 0, 1, 2, 3), (0, 1, 1, 2, 3)))
        found = failing_strokes(j.without((0, 0, 1, 2, 3)), (0, 2))
        self.same(found, ((0, 1, 2, 0, 3), (0, 1, 2, 3, 2), (0, 1, 2, 3, 3)))
        self.same(found, failing_of(j.without((0, 0, 1, 2, 3)), (0, 2)))

    def test_three_names_of_a_rest(self):
        self.same(rest_joins(TURNS_81, (1, 2, 3)).weights, (0, 1, 1, 0, 0))


def failing_of(j, lot):
    return first_failing([x for x, _ in j.strokes()], j.size - len(lot) + 1, lot)
