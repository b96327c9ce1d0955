"""[62] to [66] and missing.py: strokes with misses, chances told back, and chances divided."""

from fractions import Fraction
from itertools import product

from mergerates.chances import Chances, one_time
from mergerates.errors import BadNumber, BadParting, BadTable, NotInside, NotJoins, OtherSize
from mergerates.missing import (
    chances_of, comes_of_strokes, divides, divides_by_strokes, misses, quotient, strokes_of,
)
from mergerates.partings import partings, singles, whole
from mergerates.tables import mu
from tests import manyjoins, plain
from tests.case import NO_AMOUNTS, NO_INTEGERS, NO_PARTINGS, Case
from tests.manyjoins import table_dict

S = (0, 1, 2)
NONE = Chances(3, [0, (1, 4), (1, 4), (1, 4), (1, 4)])
NEVER = Chances(3, [(1, 2), (1, 2), 0, 0, 0])


def miss_of(f):
    return Fraction(*f) if isinstance(f, tuple) else Fraction(f)


def some_chances(n):
    """Chances of strokes, and others."""
    return [*[chances_of(n, strokes) for strokes in manyjoins.stroke_lists(n)], *manyjoins.other_chances(n)]


def below_of(chances):
    found = table_dict(chances.size, chances.table)
    return {t: sum(found[x] for x in plain.below(t)) for t in found}


def power_of(number, k):
    return Fraction(number) ** k


def misses_told(n, below):
    """The words of [63] for a dict of below(t)."""
    found = {}
    for r in partings(n)[:-1]:
        product_told = Fraction(1)
        for t in plain.below(r):
            product_told *= power_of(below[t], mu(t, r))
        found[r] = 1 / product_told
    found[singles(n)] = Fraction(1)
    return {r: found[r] for r in partings(n)}


def can_be_told(chances):
    return chances.table[-1] != (0, 1)


def quotient_told(n, first, second):
    """The table whose sums below are those of the one divided by those of the other, as words of [64]."""
    below = {t: first[t] / second[t] for t in partings(n)}
    found = {}
    for t in partings(n)[::-1]:
        found[t] = below[t] - sum(found[x] for x in plain.below(t) if x != t)
    return below, {t: found[t] for t in partings(n)}


class Strokes(Case):
    def test_62_chances(self):
        for n in manyjoins.SIZES:
            for strokes in manyjoins.stroke_lists(n):
                expected = manyjoins.random_parting(n, [(x, miss_of(f)) for x, f in strokes])
                found = chances_of(n, list(strokes))
                self.assertIs(type(found), Chances)
                self.same(found.table, tuple(plain.told(f) for f in expected.values()))
                listed = [[list(x), f] for x, f in strokes]
                self.assertEqual(chances_of(size=n, strokes=listed), found)
                self.assertEqual(chances_of(n, strokes[::-1]), found)

    def test_62_below(self):
        for n in manyjoins.SIZES:
            for strokes in manyjoins.stroke_lists(n):
                found = chances_of(n, strokes)
                for t in partings(n):
                    expected = Fraction(1)
                    for x, f in strokes:
                        if not plain.is_finer(x, t):
                            expected *= miss_of(f)
                    self.same(found.below(t), plain.told(expected))

    def test_62_what_can_happen(self):
        for n in manyjoins.SIZES:
            for strokes in manyjoins.stroke_lists(n):
                found = {singles(n)}
                for x, f in strokes:
                    if miss_of(f) < 1:
                        found |= {manyjoins.many.join_of(t, x) for t in found}
                table = table_dict(n, chances_of(n, strokes).table)
                self.assertEqual({t for t in table if table[t] > 0}, found)

    def test_no_strokes(self):
        for n in (1, 2, 6):
            self.same(chances_of(n, []).at(singles(n)), (1, 1))
            self.same(strokes_of(chances_of(n, ())), [])

    def test_strokes_do_not_change(self):
        strokes = [[[0, 1, 1], (1, 2)]]
        chances_of(3, strokes)
        self.same(strokes, [[[0, 1, 1], (1, 2)]])

    def test_refused(self):
        good = ((0, 1, 1), (1, 2))
        for wrong in (*NO_INTEGERS, 0, 7):
            self.refuses(BadNumber, "size", chances_of, wrong, None)
        for wrong in (None, 3, "ab", {}, iter(())):
            self.refuses(BadTable, -1, chances_of, 3, wrong)
        for wrong in (None, 3, "ab", (), ((0, 1, 1),), ((0, 1, 1), 1, 1), {0: 0, 1: 1}):
            self.refuses(BadTable, 1, chances_of, 3, [good, wrong, None])
        for wrong in (*NO_AMOUNTS, 0, 2, -1, (0, 1), (3, 2), (-1, 2)):
            self.refuses(BadTable, 1, chances_of, 3, [good, (None, wrong), None])
        for wrong, _ in NO_PARTINGS:
            self.refuses(BadParting, 1, chances_of, 3, [good, (wrong, 1), None])
        for wrong in (S, [0, 1, 2], (0,), (0, 1), (0, 1, 2, 3), (0, 1, 1), [0, 1, 1]):
            self.refuses(BadParting, 1, chances_of, 3, [good, (wrong, 1), None])
        self.refuses(OtherSize, 2, chances_of, 3, [good, ((0, 0), 1), None])
        self.refuses(OtherSize, 4, chances_of, 3, [((0, 1, 1, 1), 1), None])
        self.refuses(OtherSize, 2, chances_of, 1, [((0, 0), 1)])
        self.refuses(BadParting, 0, chances_of, 1, [((0,), 1)])
        self.refuses(BadTable, 0, chances_of, 3, [(S, 2), ((0, 0), 1)])


class Back(Case):
    def test_63_misses(self):
        for n in manyjoins.SIZES:
            for chances in some_chances(n):
                if can_be_told(chances):
                    expected = misses_told(n, below_of(chances))
                    self.same(misses(chances), tuple(plain.told(f) for f in expected.values()))
                    self.same(misses(chances=chances), misses(chances))

    def test_63_strokes_back(self):
        for n in manyjoins.SIZES:
            for strokes in manyjoins.stroke_lists(n):
                found = strokes_of(chances_of(n, strokes))
                self.same(found, sorted((x, f) for x, f in strokes if miss_of(f) < 1))
                self.same(comes_of_strokes(chances_of(n, strokes)), True)

    def test_63_which_chances_come(self):
        answers = []
        for n in manyjoins.SIZES:
            for chances in some_chances(n):
                if can_be_told(chances):
                    told = misses_told(n, below_of(chances))
                    more = [r for r in partings(n) if told[r] > 1]
                    self.same(comes_of_strokes(chances), not more)
                    if more:
                        self.refuses(NotJoins, more[0], strokes_of, chances)
                    else:
                        self.assertEqual(chances_of(n, strokes_of(chances)), chances)
                        self.same(strokes_of(chances=chances),
                                  [(r, plain.told(f)) for r, f in told.items() if f < 1])
                    answers.append(not more)
                else:
                    self.same(comes_of_strokes(chances=chances), False)
                    self.refuses(NotJoins, singles(n), strokes_of, chances)
                    self.refuses(NotInside, -1, misses, chances)
        self.assertEqual(set(answers), {True, False})

    def test_63_joined(self):
        for n in (1, 2, 3):
            every = [chances for chances in some_chances(n) if can_be_told(chances)]
            for first, second in product(every, every[::2]):
                expected = [Fraction(*f) * Fraction(*g) for f, g in zip(misses(first), misses(second))]
                self.same(misses(first + second), tuple(plain.told(f) for f in expected))

    def test_63_join_worlds(self):
        for n, weights, j in manyjoins.light_joins():
            found = strokes_of(one_time(j, (1, 2)))
            self.same(found, [(x, (1, 2 ** weight)) for x, weight in j.strokes()])

    def test_66_repeated(self):
        for n in manyjoins.SIZES:
            for chances in some_chances(n)[::3]:
                self.same(comes_of_strokes(chances.repeated(2)), comes_of_strokes(chances))
                if comes_of_strokes(chances):
                    expected = [(x, plain.told(Fraction(*f) ** 3)) for x, f in strokes_of(chances)]
                    self.same(strokes_of(chances.repeated(3)), expected)

    def test_examples(self):
        P = chances_of(3, [((0, 1, 1), (1, 2)), ((0, 0, 1), (1, 2))])
        self.same([P.table, strokes_of(P)],
                  [((1, 4), (1, 4), (0, 1), (1, 4), (1, 4)), [((0, 0, 1), (1, 2)), ((0, 1, 1), (1, 2))]])
        self.same([comes_of_strokes(NONE), misses(NONE)],
                  [False, ((2, 1), (1, 2), (1, 2), (1, 2), (1, 1))])
        self.refuses(NotJoins, (0, 0, 0), strokes_of, NONE)
        self.refuses(NotJoins, S, strokes_of, NEVER)
        self.refuses(NotInside, -1, misses, NEVER)

    def test_one_name(self):
        P = Chances(1, (1,))
        self.same((misses(P), comes_of_strokes(P), strokes_of(P)), (((1, 1),), True, []))


class Divided(Case):
    def pairs(self, sizes):
        for n in sizes:
            every = some_chances(n)
            chosen = every if n < 4 else every[::4]
            for first, second in product(chosen, repeat=2):
                yield n, first, second

    def test_64_quotient(self):
        for n, P, Q in self.pairs((1, 2, 3, 4)):
            if can_be_told(Q):
                below, expected = quotient_told(n, below_of(P), below_of(Q))
                self.same(quotient(P, Q), tuple(plain.told(f) for f in expected.values()))
                self.same(quotient(chances=P, other=Q), quotient(P, Q))
                self.assertEqual(sum(expected.values()), 1)
                comes = min(expected.values()) >= 0
                self.same(divides(Q, P), comes)
                self.same(divides(other=Q, chances=P), comes)
                if comes:
                    self.assertEqual(Q + Chances(n, quotient(P, Q)), P)
            else:
                for call in (lambda: quotient(P, Q), lambda: divides(Q, P), lambda: divides_by_strokes(Q, P)):
                    self.refuses(NotInside, -1, call)

    def test_64_by_strokes(self):
        answers = []
        for n, P, Q in self.pairs((1, 2, 3, 4)):
            if can_be_told(Q):
                expected = False
                if can_be_told(P):
                    below, _ = quotient_told(n, below_of(P), below_of(Q))
                    expected = max(misses_told(n, below).values()) <= 1
                found = divides_by_strokes(Q, P)
                self.same(found, expected)
                self.same(divides_by_strokes(other=Q, chances=P), found)
                if found:
                    self.same(divides(Q, P), True)
                    self.same(comes_of_strokes(Chances(n, quotient(P, Q))), True)
                elif divides(Q, P):
                    self.same(comes_of_strokes(Chances(n, quotient(P, Q))), False)
                answers.append((found, divides(Q, P)))
        self.assertEqual(set(answers), {(True, True), (False, True), (False, False)})

    def test_64_only_one_comes_into_question(self):
        for n in (1, 2, 3):
            every = [chances for chances in some_chances(n) if can_be_told(chances)]
            for Q, R in product(every, repeat=2):
                self.same(quotient(Q + R, Q), R.table)
                self.same(divides(Q, Q + R), True)
                self.same(divides_by_strokes(Q, Q + R), comes_of_strokes(R))

    def test_sizes_come_before_singles(self):
        P, Q = Chances(2, (1, 0)), Chances(3, (1, 0, 0, 0, 0))
        self.refuses(OtherSize, 3, quotient, P, Q)
        self.refuses(OtherSize, 2, quotient, Q, P)
        for call in (divides, divides_by_strokes):
            self.refuses(OtherSize, 3, call, P, Q)
            self.refuses(OtherSize, 2, call, Q, P)
            self.refuses(NotInside, -1, call, P, P)
        self.refuses(NotInside, -1, quotient, P, P)

    def test_chances_that_are_0_at_singles(self):
        Q = Chances(2, ((1, 2), (1, 2)))
        self.same((quotient(Chances(2, (1, 0)), Q), divides(Q, Chances(2, (1, 0)))), (((1, 1), (0, 1)), True))
        self.same(divides_by_strokes(Q, Chances(2, (1, 0))), False)


class Sizes(Case):
    def test_six_names(self):
        strokes = [(x, (99, 100) if place % 5 == 0 else (1, 2)) for place, x in enumerate(partings(6)[:-1])][::4]
        X = chances_of(6, strokes)
        self.same(strokes_of(X), sorted(strokes))
        self.same(comes_of_strokes(X), True)
        Y = chances_of(6, strokes[::2])
        rest = chances_of(6, strokes[1::2])
        self.same(quotient(X, Y), rest.table)
        self.same((divides(Y, X), divides_by_strokes(Y, X), divides(X, Y)), (True, True, False))

    def test_misses_of_forty_digits(self):
        top = 10 ** 40 - 1
        strokes = [((0, 0, 0, 1, 1, 2), (1, top)), ((0, 1, 1, 2, 2, 2), (top - 1, top)), (whole(6), (1, 2))]
        X = chances_of(6, strokes)
        self.same(strokes_of(X), sorted(strokes))
        self.same(misses(X).count((1, 1)), 200)
