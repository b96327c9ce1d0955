"""[77], [78] and splits.py: splits, extensions, and lots that meet without memory."""

from fractions import Fraction
from itertools import product

from mergerates.errors import BadLot, BadNumber
from mergerates.joins import Joins
from mergerates.leaving import leaving_time
from mergerates.partings import partings, singles
from mergerates.polynomials import Poly
from mergerates.splits import apart_poly, breaks, extensions, least_extension, memory_free, splits_of
from tests import manyjoins, plain
from tests.case import NO_INTEGERS, Case
from tests.manyjoins import mean_of, sum_of_polys

PATH = Joins.of_pairs(3, [(0, 1, 1), (1, 2, 1)])
NO_LOTS = (None, 3, "01", {0: 0}, (), [], iter((0,)), (0, 3), (0, -1), (1, 1), (True,), (0, 1.0), (None,))


def linked(p, side, other):
    return any(p[a] == p[b] for a in side for b in other)


def two_lots(n):
    """All pairs of lots that are not empty and have no common name."""
    lots = plain.all_lots(n)[1:]
    return [(side, other) for side, other in product(lots, repeat=2) if not set(side) & set(other)]


def told_extensions(n, side, other):
    """The words of [77]."""
    found = []
    for first in plain.all_lots(n):
        second = tuple(name for name in range(n) if name not in first)
        if set(side) <= set(first) and set(other) <= set(second):
            found.append((first, second))
    return sorted(found)


class Splits(Case):
    def test_77_splits(self):
        for n in range(1, 7):
            for lot in plain.all_lots(n)[1:]:
                expected = []
                for first in plain.all_lots(n)[1:]:
                    rest = tuple(name for name in lot if name not in first)
                    if set(first) <= set(lot) and lot[0] in first and rest:
                        expected.append((first, rest))
                self.same(splits_of(lot), sorted(expected))
                self.same(splits_of(lot=list(lot)[::-1]), sorted(expected))
        self.same(splits_of((3,)), [])
        self.same(splits_of([5, 2]), [((2,), (5,))])
        self.same(splits_of((0, 1, 2)), [((0,), (1, 2)), ((0, 1), (2,)), ((0, 2), (1,))])
        self.assertEqual(len(splits_of((0, 1, 2, 3, 4, 5))), 31)

    def test_splits_refused(self):
        for wrong in (None, 3, "01", {0: 0}, (), [], iter((0,))):
            self.refuses(BadLot, -1, splits_of, wrong)
        for wrong in (6, -1, None, True, 1.0, 0, "1"):
            self.refuses(BadLot, 1, splits_of, (0, wrong, 9))

    def test_77_breaking_a_split(self):
        for n, weights, j in manyjoins.all_joins():
            for side, other in two_lots(n):
                expected = [x for x in manyjoins.strokes_of(weights) if linked(x, side, other)]
                self.same(breaks(j, side, other), expected)
                self.same(breaks(j=j, side=list(side)[::-1], other=list(other)), expected)

    def test_77_extensions(self):
        for n in range(1, 6):
            for side, other in two_lots(n):
                self.same(extensions(n, side, other), told_extensions(n, side, other))
                self.same(extensions(n=n, side=list(side)[::-1], other=list(other)[::-1]),
                          told_extensions(n, side, other))
        self.same(extensions(6, (5,), (0,))[0], ((1, 2, 3, 4, 5), (0,)))
        self.assertEqual(len(extensions(6, (5,), (0,))), 16)
        self.same(extensions(2, (1,), (0,)), [((1,), (0,))])

    def test_refused(self):
        calls = (lambda a, b: breaks(PATH, a, b), lambda a, b: extensions(3, a, b),
                 lambda a, b: least_extension(PATH, a, b), lambda a, b: apart_poly(PATH, a, b),
                 lambda a, b: memory_free(PATH, a, b))
        for call in calls:
            for wrong in NO_LOTS:
                self.refuses(BadLot, 0, call, wrong, None)
                self.refuses(BadLot, 1, call, (0, 1), wrong)
            self.refuses(BadLot, 1, call, (0, 1), (2, 1))
            self.refuses(BadLot, 1, call, [2], (2,))
            self.refuses(BadLot, 0, call, (0, 0), (0,))
        for wrong in (*NO_INTEGERS, 0, 7):
            self.refuses(BadNumber, "n", extensions, wrong, None, None)
        self.refuses(BadLot, 0, extensions, 1, (1,), (0,))

    def test_lots_do_not_change(self):
        side, other = [2, 0], [1]
        for call in (breaks, least_extension, apart_poly, memory_free):
            call(PATH, side, other)
        splits_of(side)
        extensions(3, side, other)
        self.same((side, other), ([2, 0], [1]))


class Memory(Case):
    def test_78_the_chance_of_being_apart(self):
        for n, weights, j in manyjoins.all_joins():
            polys = manyjoins.polys_at(n, weights)
            for side, other in two_lots(n):
                apart = [t for t in partings(n) if not linked(t, side, other)]
                f = apart_poly(j, side, other)
                self.assertIs(type(f), Poly)
                self.same(f.terms, sum_of_polys([polys[t] for t in apart]))
                self.same(f.mean(), leaving_time(j, apart, singles(n)))
                self.assertEqual(apart_poly(j=j, side=list(side)[::-1], other=list(other)), f)

    def test_78_without_memory(self):
        answers = []
        for n, weights, j in manyjoins.all_joins():
            for side, other in two_lots(n):
                terms = apart_poly(j, side, other).terms
                free = len(terms) == 1 and terms[0][1] == 1
                self.same(memory_free(j, side, other), free)
                self.same(memory_free(j=j, side=list(side), other=list(other)), free)
                self.same(least_extension(j, side, other) is not None, free)
                answers.append(free)
        self.assertEqual(set(answers), {True, False})

    def test_78_least_extension(self):
        for n, weights, j in manyjoins.all_joins():
            for side, other in two_lots(n):
                every = told_extensions(n, side, other)
                broken = {split: {x for x in manyjoins.strokes_of(weights) if linked(x, *split)} for split in every}
                right = [split for split in every if all(broken[split] <= broken[more] for more in every)]
                found = least_extension(j, side, other)
                self.same(found, right[0] if right else None)
                self.same(least_extension(j=j, side=list(side)[::-1], other=list(other)), found)

    def test_78_the_rate_and_the_mean_time(self):
        for n, weights, j in manyjoins.all_joins():
            for side, other in two_lots(n):
                rates = [sum(weights[x] for x in breaks(j, *split)) for split in extensions(n, side, other)]
                f = apart_poly(j, side, other)
                mean = f.mean()
                if memory_free(j, side, other):
                    split = least_extension(j, side, other)
                    rate = sum(weights[x] for x in breaks(j, *split))
                    self.assertEqual(rate, min(rates))
                    self.same(f.terms, ((rate, 1),))
                    self.same(mean, None if rate == 0 else (1, rate))
                else:
                    self.assertGreater(min(rates), 0)
                    self.assertGreater(Fraction(*mean), Fraction(1, min(rates)))
                    self.assertEqual(Fraction(*mean), mean_of(f.terms))

    def test_examples(self):
        self.same([apart_poly(PATH, (0,), (2,)).terms, least_extension(PATH, (0,), (2,)),
                   least_extension(PATH, (0,), (1,))], [((1, 2), (2, -1)), None, ((0,), (1, 2))])

    def test_all_names(self):
        for n, weights, j in manyjoins.all_joins((2, 3, 4)):
            for side, other in splits_of(tuple(range(n))):
                # A split of all names has no extension but itself.
                self.same(least_extension(j, side, other), (side, other))

    def test_six_names(self):
        j = Joins(6, [1] * 202 + [0])
        self.same(memory_free(j, (0,), (1, 2, 3, 4, 5)), True)
        self.same(memory_free(j, (0,), (1,)), False)
        self.same(apart_poly(j, (0,), (1, 2, 3, 4, 5)).terms, ((151, 1),))
        self.assertEqual(len(breaks(j, (0,), (1, 2, 3, 4, 5))), 151)
