"""[61], [65] to [67], [70], [72] and chances.py: random partings, joined, traced, given, repeated, at one time."""

from fractions import Fraction

from mergerates.chances import Chances, one_time
from mergerates.errors import BadLot, BadNumber, BadParting, BadTable, NotInside, OtherSize, TooMany
from mergerates.joins import Joins
from mergerates.missing import chances_of, comes_of_strokes
from mergerates.partings import lot_parting, partings, seen_from, singles, whole
from mergerates.polynomials import chance_polys
from tests import many, manyjoins, plain
from tests.case import NO_AMOUNTS, NO_INTEGERS, NO_PARTINGS, Case
from tests.manyjoins import MOMENTS, table_dict

PATH = Joins.of_pairs(3, [(0, 1, 1), (1, 2, 1)])
EVEN = Chances(3, [(1, 5)] * 5)


def all_chances(sizes=manyjoins.SIZES):
    """Tuples (n, the chances as Fractions by partings, the Chances), of strokes and of none."""
    for n in sizes:
        found = [chances_of(n, list(strokes)) for strokes in manyjoins.stroke_lists(n)]
        for chances in (*found, *manyjoins.other_chances(n)):
            yield n, table_dict(n, chances.table), chances


def told_table(n, numbers):
    return tuple(plain.told(numbers.get(t, 0)) for t in partings(n))


def joined_chances(n, first, second):
    """The words of [61]: X + Y for X and Y independent of each other."""
    found = {}
    for t, f in first.items():
        for s, g in second.items():
            if f and g:
                r = many.join_of(t, s)
                found[r] = found.get(r, 0) + f * g
    return found


class Making(Case):
    def test_61_table(self):
        found = Chances(3, [0, (1, 2), 0, (1, 3), (1, 6)])
        self.same((found.size, found.table), (3, ((0, 1), (1, 2), (0, 1), (1, 3), (1, 6))))
        self.same(list(found), list(found.table))
        self.same(Chances(size=1, table=(1,)).table, ((1, 1),))
        self.same(Chances(2, ((1, 1), 0)).table, ((1, 1), (0, 1)))

    def test_it_copies_what_it_is_given(self):
        table = [0, 1]
        found = Chances(2, table)
        table[0] = 5
        self.same(found.table, ((0, 1), (1, 1)))

    def test_refused(self):
        for wrong in (*NO_INTEGERS, 0, 7):
            self.refuses(BadNumber, "size", Chances, wrong, None)
        for wrong in (None, 3, "ab", {}, (), (1,), (1, 0, 0), iter((1, 0)), Chances(2, (1, 0))):
            self.refuses(BadTable, -1, Chances, 2, wrong)
        for wrong in (*NO_AMOUNTS, -1, (-1, 2)):
            self.refuses(BadTable, 0, Chances, 2, (wrong, wrong))
            self.refuses(BadTable, 1, Chances, 2, (9, wrong))
        for wrong in ((0, 0), (1, 1), ((1, 2), (1, 3)), (2, 0), ((10 ** 40 - 1, 10 ** 40), 0)):
            self.refuses(BadTable, -1, Chances, 2, wrong)

    def test_equal(self):
        self.same(Chances(2, (0, 1)) == Chances(2, [(0, 1), (1, 1)]), True)
        self.same(Chances(2, (0, 1)) != Chances(2, [(0, 1), (1, 1)]), False)
        self.same(Chances(2, (0, 1)) == Chances(2, (1, 0)), False)
        self.same(Chances(1, (1,)) == Chances(2, (1, 0)), False)
        for other in (None, ((0, 1), (1, 1)), 1):
            self.same(Chances(2, (0, 1)) == other, False)


class Asking(Case):
    def test_61_at_below_above(self):
        for n, chance, X in all_chances():
            for t in partings(n):
                self.same(X.at(t), plain.told(chance[t]))
                self.same(X.below(t), plain.told(sum(chance[x] for x in plain.below(t))))
                self.same(X.above(t), plain.told(sum(chance[x] for x in partings(n) if plain.is_finer(t, x))))
                self.same((X.at(t=list(t)), X.below(t=list(t)), X.above(r=list(t))),
                          (X.at(t), X.below(t), X.above(t)))

    def test_61_joined(self):
        for n in (1, 2, 3):
            every = [(chance, X) for _, chance, X in all_chances((n,))]
            for first, X in every:
                for second, Y in every[::3]:
                    found = X + Y
                    self.assertIs(type(found), Chances)
                    self.same(found.size, n)
                    self.same(found.table, told_table(n, joined_chances(n, first, second)))
                    self.assertEqual(found, Y + X)
                    for t in partings(n):
                        product = Fraction(*X.below(t)) * Fraction(*Y.below(t))
                        self.same(found.below(t), plain.told(product))

    def test_61_joined_on_four_names(self):
        every = [(chance, X) for _, chance, X in all_chances((4,))]
        for (first, X), (second, Y) in zip(every, [*every[5:], *every[:5]]):
            self.same((X + Y).table, told_table(4, joined_chances(4, first, second)))

    def test_joined_refused(self):
        self.refuses(OtherSize, 2, lambda: EVEN + Chances(2, (1, 0)))
        self.refuses(OtherSize, 3, lambda: Chances(2, (1, 0)) + EVEN)
        self.assertRaises(TypeError, lambda: EVEN + 1)

    def test_67_trace(self):
        for n, chance, X in all_chances():
            for lot in plain.all_lots(n)[1:]:
                expected = {}
                for t, f in chance.items():
                    y = plain.trace_on(t, lot)
                    expected[y] = expected.get(y, 0) + f
                found = X.trace_on(lot)
                self.assertIs(type(found), Chances)
                self.same((found.size, found.table), (len(lot), told_table(len(lot), expected)))
                self.assertEqual(X.trace_on(lot=list(lot)[::-1]), found)
                for y in partings(len(lot)):
                    below = sum(f for t, f in chance.items() if plain.is_finer(plain.trace_on(t, lot), y))
                    self.same(found.below(y), plain.told(below))

    def test_67_the_trace_of_joined_chances(self):
        # Two sure strokes: on {0, 1} neither holds 0 and 1 together, but their join does.
        X = chances_of(3, [((0, 1, 0), (1, 2))])
        Y = chances_of(3, [((0, 1, 1), (1, 2))])
        self.same((X + Y).trace_on((0, 1)).table, ((1, 4), (3, 4)))
        self.same((X.trace_on((0, 1)) + Y.trace_on((0, 1))).table, ((0, 1), (1, 1)))

    def test_67_the_trace_that_comes_of_strokes_or_not(self):
        for f in (Fraction(9, 10), Fraction(1, 10), Fraction(1, 2), Fraction(3, 4), Fraction(99, 100)):
            strokes = [(lot_parting((name, 3), 4), plain.told(f)) for name in (0, 1, 2)]
            found = chances_of(4, strokes).trace_on((0, 1, 2))
            expected = (f + f ** 2 - f ** 3) ** 3 <= (3 * f ** 2 - 2 * f ** 3) ** 2
            self.same(comes_of_strokes(found), expected)
            if f in (Fraction(9, 10), Fraction(1, 10)):
                self.same(expected, f == Fraction(9, 10))

    def test_65_inside(self):
        for n, chance, X in all_chances():
            for t in partings(n):
                below = sum(chance[x] for x in plain.below(t))
                if below == 0:
                    self.refuses(NotInside, -1, X.inside, t)
                else:
                    found = X.inside(t)
                    self.assertIs(type(found), Chances)
                    expected = {x: f / below for x, f in chance.items() if plain.is_finer(x, t)}
                    self.same((found.size, found.table), (n, told_table(n, expected)))
                    self.assertEqual(X.inside(t=list(t)), found)

    def test_65_given_that_it_is_below(self):
        for n in manyjoins.SIZES:
            for strokes in manyjoins.stroke_lists(n):
                X = chances_of(n, strokes)
                for t in partings(n):
                    finer = [(x, f) for x, f in strokes if plain.is_finer(x, t)]
                    self.assertEqual(X.inside(t), chances_of(n, finer))

    def test_joined_by(self):
        for n, chance, X in all_chances():
            for x in partings(n):
                found = X.joined_by(x)
                self.assertIs(type(found), Chances)
                self.same(found.table, told_table(n, joined_chances(n, chance, {x: Fraction(1)})))
                self.assertEqual(X.joined_by(x=list(x)), found)

    def test_65_one_stroke(self):
        for n in manyjoins.SIZES:
            for strokes in manyjoins.stroke_lists(n):
                for place, (x, f) in enumerate(strokes[:4]):
                    without = chances_of(n, [*strokes[:place], *strokes[place + 1:]])
                    miss = Fraction(*f) if isinstance(f, tuple) else Fraction(f)
                    joined = table_dict(n, without.joined_by(x).table)
                    expected = {t: miss * g + (1 - miss) * joined[t] for t, g in table_dict(n, without).items()}
                    self.same(chances_of(n, strokes).table, told_table(n, expected))

    def test_66_repeated(self):
        for n, chance, X in all_chances((1, 2, 3)):
            expected = X
            for k in (1, 2, 3):
                self.assertEqual(X.repeated(k), expected)
                self.assertEqual(X.repeated(k=k), expected)
                self.same(comes_of_strokes(X.repeated(k)), comes_of_strokes(X))
                expected = expected + X
            self.assertIs(type(X.repeated(20)), Chances)
            for t in partings(n):
                self.same(X.repeated(20).below(t), plain.told(Fraction(*X.below(t)) ** 20))

    def test_refused(self):
        for call in (EVEN.at, EVEN.below, EVEN.above, EVEN.inside, EVEN.joined_by):
            for wrong, place in NO_PARTINGS:
                self.refuses(BadParting, place, call, wrong)
            self.refuses(OtherSize, 2, call, (0, 1))
            self.refuses(OtherSize, 4, call, (0, 1, 2, 3))
        for wrong in (*NO_INTEGERS, 0, -1, 21):
            self.refuses(BadNumber, "k", EVEN.repeated, wrong)
        for wrong in (None, 3, "01", {0: 0}, (), [], iter((0,))):
            self.refuses(BadLot, -1, EVEN.trace_on, wrong)
        for wrong in (3, -1, None, True, 1.0, 0):
            self.refuses(BadLot, 1, EVEN.trace_on, (0, wrong, 9))
        self.refuses(NotInside, -1, Chances(2, (1, 0)).inside, (0, 1))


class AtOneTime(Case):
    def test_70_stroke_by_stroke(self):
        for n, weights, j in manyjoins.light_joins():
            for u in MOMENTS:
                found = one_time(j, u)
                self.assertIs(type(found), Chances)
                self.same((found.size, found.table), (n, told_table(n, manyjoins.at_time(n, weights, u))))
                self.assertEqual(one_time(j=j, u=u), found)

    def test_70_the_polynomials(self):
        for n, weights, j in manyjoins.light_joins():
            for u in ((1, 3), 1, (1, 1)):
                self.same(one_time(j, u).table, tuple(f(u) for f in chance_polys(j)))

    def test_70_the_beginning(self):
        for n, weights, j in manyjoins.light_joins():
            self.same(one_time(j, 1).at(singles(n)), (1, 1))

    def test_72_weights_added(self):
        for n in (1, 2, 3):
            every = [j for _, _, j in manyjoins.light_joins((n,))]
            for j in every:
                for i in every:
                    both = Joins(n, [a + b for a, b in zip(j.weights, i.weights)])
                    self.assertEqual(one_time(both, (2, 3)), one_time(j, (2, 3)) + one_time(i, (2, 3)))

    def test_72_below_and_seen_from_a_parting(self):
        for n, weights, j in manyjoins.light_joins():
            X = one_time(j, (3, 5))
            for p in partings(n):
                self.assertEqual(one_time(j.under(p), (3, 5)), X.inside(p))
                seen = one_time(j.seen_joins(p), (3, 5))
                for r, chance in zip(partings(n), X.joined_by(p)):
                    self.same(chance, seen.at(seen_from(p, r)) if plain.is_finer(p, r) else (0, 1))

    def test_refused(self):
        great = Joins(2, (401, 0))
        for wrong in (*NO_AMOUNTS, 0, -1, 2, (0, 1), (-1, 2), (3, 2)):
            self.refuses(BadNumber, "u", one_time, great, wrong)
        for u in (1, (1, 2)):
            self.refuses(TooMany, 401, one_time, great, u)
        self.refuses(TooMany, 3 * 10 ** 14, one_time, Joins(3, (10 ** 14, 10 ** 14, 10 ** 14, 0, 0)), 1)
        self.same(one_time(Joins(2, (400, 0)), (1, 2)).table, ((2 ** 400 - 1, 2 ** 400), (1, 2 ** 400)))
        self.refuses(TooMany, 404, one_time, Joins(3, (101, 101, 101, 101, 0)), 1)

    def test_six_names(self):
        j = Joins(6, [1] * 202 + [0])
        X = one_time(j, (9, 10))
        self.same(X.at(singles(6)), (9 ** 202, 10 ** 202))
        self.same(X.above(whole(6)), X.at(whole(6)))
        self.same(X.below((0, 0, 0, 1, 1, 1)), (9 ** (202 - 24), 10 ** (202 - 24)))
        self.same((X + X).at(singles(6)), (9 ** 404, 10 ** 404))
        self.same(X.repeated(2).table, (X + X).table)
