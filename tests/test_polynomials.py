"""[69] to [72] and polynomials.py: polynomials in u, their means, and a join world at u as polynomials."""

from fractions import Fraction
from itertools import product

from mergerates.errors import BadNumber, BadParting, BadTable, OtherSize, TooMany
from mergerates.joins import Joins
from mergerates.means import question_time
from mergerates.partings import partings, seen_from, singles, whole
from mergerates.polynomials import Poly, below_poly, both_open_poly, chance_polys, open_poly
from mergerates.runs import stays
from mergerates.tables import mu
from tests import manyjoins, plain
from tests.case import NO_AMOUNTS, NO_INTEGERS, NO_PARTINGS, Case
from tests.manyjoins import mean_of, sum_of_polys

GREAT = 10 ** 14
PATH = Joins.of_pairs(3, [(0, 1, 1), (1, 2, 1)])
TERMS = (
    (), ((0, 5),), ((3, -2),), ((0, 1), (1, -1)), ((1, 2), (2, -1)), ((0, -3), (2, 3), (7, 1)),
    ((5, GREAT), (10 ** 20, -GREAT)), ((1, 1), (3, 1), (4, -2)), ((400, 1),), ((1, 2), (2, 1)),
)
VALUES = (0, 1, -1, 2, (1, 2), (-2, 3), (7, 5), (0, 1), (1, 1))


def value_of(terms, u):
    return sum((c * Fraction(*u if isinstance(u, tuple) else (u,)) ** e for e, c in terms), Fraction(0))


def added(*rest):
    return sum_of_polys([dict(terms) for terms in rest])


def multiplied(f, g):
    return sum_of_polys([{a + b: c * d} for a, c in f for b, d in g])


class Making(Case):
    def test_69_terms(self):
        f = Poly([(2, 1), [0, 4], (2, 3), (5, 1), (5, -1), (7, 0)])
        self.same(f.terms, ((0, 4), (2, 4)))
        for terms in TERMS:
            self.same(Poly(terms).terms, terms)
            self.same(Poly(list(terms)[::-1]).terms, terms)
            self.same(Poly(terms=terms + terms).terms, tuple((e, 2 * c) for e, c in terms))
            self.same(list(Poly(terms)), list(terms))
        self.same(Poly().terms, ())

    def test_it_copies_what_it_is_given(self):
        terms = [[1, 2]]
        f = Poly(terms)
        terms[0][1] = 9
        terms.append([3, 3])
        self.same(f.terms, ((1, 2),))
        self.same(terms, [[1, 9], [3, 3]])

    def test_slots(self):
        self.assertFalse(hasattr(Poly(), "__dict__"))
        self.same(tuple(Poly.__slots__), ("terms",))

    def test_degree(self):
        self.same([Poly(terms).degree for terms in TERMS], [-1, 0, 3, 1, 2, 7, 10 ** 20, 4, 400, 2])

    def test_term(self):
        self.same(Poly.term(3, -2).terms, ((3, -2),))
        self.same(Poly.term(exponent=0, coefficient=0).terms, ())
        self.assertIs(type(Poly.term(1, 1)), Poly)
        for wrong in (*NO_INTEGERS, -1):
            self.refuses(BadTable, 0, Poly.term, wrong, 1)
        for wrong in NO_INTEGERS:
            self.refuses(BadTable, 0, Poly.term, 1, wrong)

    def test_refused(self):
        for wrong in (None, 3, "ab", {}, iter(()), Poly()):
            self.refuses(BadTable, -1, Poly, wrong)
        for wrong in (None, 3, "ab", (), (1,), (1, 2, 3), {0: 1, 1: 1}, Poly()):
            self.refuses(BadTable, 1, Poly, [(1, 1), wrong, None])
        for wrong in (*NO_INTEGERS, -1):
            self.refuses(BadTable, 1, Poly, [(1, 1), (wrong, 1)])
        for wrong in NO_INTEGERS:
            self.refuses(BadTable, 0, Poly, [(1, wrong), None])


class Counting(Case):
    def test_sums_and_products(self):
        for a, b in product(TERMS, repeat=2):
            f, g = Poly(a), Poly(b)
            minus = tuple((e, -c) for e, c in b)
            for found, expected in ((f + g, added(a, b)), (f - g, added(a, minus)), (f * g, multiplied(a, b))):
                self.assertIs(type(found), Poly)
                self.same(found.terms, expected)
            self.same((-g).terms, minus)
            self.same((f.terms, g.terms), (a, b))

    def test_equal(self):
        for a, b in product(TERMS, repeat=2):
            self.same(Poly(a) == Poly(b), a == b)
            self.same(Poly(a) != Poly(b), a != b)
        for other in (None, 0, (), ((0, 5),), "x"):
            self.same(Poly() == other, False)
            self.same(Poly(((0, 5),)) == other, False)

    def test_truth(self):
        self.same([bool(Poly(terms)) for terms in TERMS], [False] + [True] * 9)
        self.same(bool(Poly([(3, 1)]) - Poly([(3, 1)])), False)

    def test_no_poly(self):
        for call in (lambda: Poly() + 1, lambda: Poly() - None, lambda: Poly() * 2, lambda: 2 * Poly()):
            self.assertRaises(TypeError, call)

    def test_values(self):
        for terms in TERMS:
            if Poly(terms).degree <= 400:
                for u in VALUES:
                    self.same(Poly(terms)(u), plain.told(value_of(terms, u)))
                    self.same(Poly(terms)(u=u), Poly(terms)(u))
        self.same(Poly([(0, 7)])(0), (7, 1))
        self.same(Poly()((1, 2)), (0, 1))

    def test_values_refused(self):
        great = Poly([(401, 1)])
        for wrong in NO_AMOUNTS:
            self.refuses(BadNumber, "u", great, wrong)
        self.refuses(TooMany, 401, great, 0)
        self.refuses(TooMany, 10 ** 20, Poly([(1, 1), (10 ** 20, 1)]), (1, 2))
        self.same(Poly([(400, 1)])(-1), (1, 1))

    def test_69_means(self):
        for terms in TERMS:
            self.same(Poly(terms).mean(), plain.told(mean_of(terms)))
        self.same(Poly().mean(), (0, 1))
        self.same(Poly([(0, 1), (1, 1)]).mean(), None)
        self.same(Poly([(0, 1), (0, -1), (2, 3)]).mean(), (3, 2))

    def test_at_one(self):
        for terms in TERMS:
            self.same(Poly(terms).at_one(), sum(c for _, c in terms))


class JoinWorlds(Case):
    def test_70_below(self):
        for n, weights, j in manyjoins.all_joins():
            for t in partings(n):
                self.same(below_poly(j, t).terms, ((manyjoins.breaking_of(weights, t), 1),))
                self.assertEqual(below_poly(j=j, t=list(t)), below_poly(j, t))

    def test_70_stroke_by_stroke(self):
        for n, weights, j in manyjoins.all_joins():
            expected = manyjoins.polys_at(n, weights)
            found = chance_polys(j)
            self.assertIs(type(found), list)
            self.assertEqual([f.terms for f in found], [sum_of_polys([f]) for f in expected.values()])
            self.assertEqual(chance_polys(j=j), found)

    def test_70_the_sums(self):
        for n, weights, j in manyjoins.all_joins():
            found = chance_polys(j)
            for t, f in zip(partings(n), found):
                parts = [{manyjoins.breaking_of(weights, p): mu(p, t)} for p in plain.below(t)]
                self.same(f.terms, sum_of_polys(parts))
                inside = [g for p, g in zip(partings(n), found) if p in plain.below(t)]
                self.assertEqual(sum(inside, Poly()), below_poly(j, t))
            self.assertEqual(sum(found, Poly()), Poly([(0, 1)]))

    def test_71_open_questions(self):
        for n, weights, j in manyjoins.all_joins():
            polys = manyjoins.polys_at(n, weights)
            for r in partings(n):
                expected = sum_of_polys([polys[t] for t in partings(n) if not plain.is_finer(r, t)])
                f = open_poly(j, r)
                self.same(f.terms, expected)
                self.assertEqual(open_poly(j=j, r=list(r)), f)
                self.same(f.mean(), question_time(j, r))
                self.same(any(e == 0 for e, _ in f), not plain.is_finer(r, j.top))
            self.same(open_poly(j, singles(n)).terms, ())

    def test_71_both_open(self):
        for n, weights, j in manyjoins.all_joins((1, 2, 3)):
            polys = manyjoins.polys_at(n, weights)
            for r, s in product(partings(n), repeat=2):
                both = [t for t in partings(n) if not plain.is_finer(r, t) and not plain.is_finer(s, t)]
                f = both_open_poly(j, r, s)
                self.same(f.terms, sum_of_polys([polys[t] for t in both]))
                self.assertEqual(both_open_poly(j=j, r=list(r), s=list(s)), f)

    def test_71_stays(self):
        for n, weights, j in manyjoins.all_joins():
            for t, f, time in zip(partings(n), chance_polys(j), stays(j)):
                if not plain.is_finer(j.top, t):
                    self.same(f.mean(), time)

    def test_72_weights_added(self):
        for n in (1, 2, 3):
            every = manyjoins.joins_on(n)
            for j, i in product(every, repeat=2):
                both = Joins(n, [a + b for a, b in zip(j.weights, i.weights)])
                for t in partings(n):
                    self.assertEqual(below_poly(both, t), below_poly(j, t) * below_poly(i, t))

    def test_72_below_a_parting(self):
        # Given X <= t: the chance of X = x is divided by that of X <= t.
        for n, weights, j in manyjoins.all_joins():
            for t in partings(n):
                for x, f, g in zip(partings(n), chance_polys(j.under(t)), chance_polys(j)):
                    self.assertEqual(f * below_poly(j, t), g if plain.is_finer(x, t) else Poly())

    def test_72_seen_from_a_parting(self):
        for n, weights, j in manyjoins.all_joins():
            for p in partings(n):
                found = {r: Poly() for r in partings(n)}
                for t, f in zip(partings(n), chance_polys(j)):
                    r = plain.join_of([p, t]) if n < 4 else manyjoins.many.join_of(p, t)
                    found[r] = found[r] + f
                seen = dict(zip(partings(len(set(p))), chance_polys(j.seen_joins(p))))
                for r in partings(n):
                    self.assertEqual(found[r], seen[seen_from(p, r)] if plain.is_finer(p, r) else Poly())

    def test_example(self):
        f = open_poly(PATH, (0, 0, 0))
        self.same([f.terms, f.mean(), f((1, 2))], [((1, 2), (2, -1)), (3, 2), (3, 4)])

    def test_one_name(self):
        j = Joins(1, (0,))
        self.same([f.terms for f in chance_polys(j)], [((0, 1),)])
        self.same((open_poly(j, (0,)).terms, below_poly(j, (0,)).terms), ((), ((0, 1),)))

    def test_refused(self):
        for call in (below_poly, open_poly):
            for wrong, place in NO_PARTINGS:
                self.refuses(BadParting, place, call, PATH, wrong)
            self.refuses(OtherSize, 4, call, PATH, (0, 1, 2, 3))
        for wrong, place in NO_PARTINGS:
            self.refuses(BadParting, place, both_open_poly, PATH, wrong, (1,))
            self.refuses(BadParting, place, both_open_poly, PATH, (0, 1), wrong)
        self.refuses(OtherSize, 2, both_open_poly, PATH, (0, 1), (0,))
        self.refuses(OtherSize, 1, both_open_poly, PATH, (0, 0, 0), (0,))

    def test_six_names(self):
        j = Joins(6, [GREAT - place * place for place in range(202)] + [0])
        found = chance_polys(j)
        self.assertEqual(sum(found, Poly()), Poly([(0, 1)]))
        self.assertEqual(open_poly(j, whole(6)), Poly([(0, 1)]) - found[0])
        self.same(found[-1].terms, ((sum(j.weights), 1),))
