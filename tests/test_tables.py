"""[5], [6], [8], [12] and tables.py: mu, sums below and above, counts."""

from fractions import Fraction
from itertools import product
from math import comb, factorial, prod

from mergerates.errors import BadNumber, BadParting, BadTable, NotFiner, OtherSize
from mergerates.partings import count_of, finer, partings, seen_from, singles, touched, whole
from mergerates.tables import (
    colour_count, counts_by_touch, mu, sums_above, sums_below, told_above, told_below, without_alone,
)
from tests import plain
from tests.case import NO_AMOUNTS, NO_INTEGERS, NO_PARTINGS, Case

CALLS = (sums_below, sums_above, told_below, told_above)
FORTY = 10 ** 40 - 1


def plain_mu(p, r):
    """The words of [6]."""
    found = 1
    for block in range(len(set(r))):
        k = len({p[name] for name in range(len(p)) if r[name] == block})
        found *= (-1) ** (k - 1) * factorial(k - 1)
    return found


def exact(item):
    return Fraction(*item) if isinstance(item, tuple) else Fraction(item)


def told(numbers):
    return tuple((f.numerator, f.denominator) for f in numbers)


def plain_sums(n, table, below):
    every = plain.partings_of(n)
    at = {p: exact(item) for p, item in zip(every, table)}
    if below:
        return told([sum(at[p] for p in every if plain.is_finer(p, t)) for t in every])
    return told([sum(at[r] for r in every if plain.is_finer(t, r)) for t in every])


def some_tables(n):
    many = len(plain.partings_of(n))
    yield tuple(range(many))
    yield [0] * many
    yield [told([Fraction(k * k - 7, k + 3)])[0] for k in range(many)]
    yield tuple((-1) ** k * (FORTY - k) for k in range(many))
    yield [told([Fraction(FORTY - 2 * k, FORTY - 2 * k - 1)])[0] for k in range(many)]


class Mu(Case):
    def test_6_mu(self):
        for n in range(1, 6):
            for p, r in plain.comparable(n):
                self.same(mu(p, r), plain_mu(p, r))
                self.same(mu(list(p), list(r)), plain_mu(p, r))
        self.same(mu(singles(6), whole(6)), -120)
        self.same(mu((0,), (0,)), 1)

    def test_mu_refuses(self):
        for wrong, place in NO_PARTINGS:
            self.refuses(BadParting, place, mu, wrong, (1,))
            self.refuses(BadParting, place, mu, (0, 1), wrong)
        self.refuses(OtherSize, 3, mu, (0, 0), (0, 1, 2))
        for p, r in product(plain.partings_of(4), repeat=2):
            if not plain.is_finer(p, r):
                self.refuses(NotFiner, -1, mu, p, r)

    def test_8_sums_of_mu_between_are_0(self):
        for n in range(1, 6):
            for p, r in plain.comparable(n):
                between = [x for x in partings(n) if finer(p, x) and finer(x, r)]
                expected = 1 if p == r else 0
                self.assertEqual(sum(mu(p, x) for x in between), expected)
                self.assertEqual(sum(mu(x, r) for x in between), expected)

    def test_8_mu_of_what_is_seen(self):
        for n in range(1, 6):
            for p, r in plain.comparable(n):
                self.assertEqual(mu(p, r), mu(singles(count_of(p)), seen_from(p, r)))


class Sums(Case):
    def test_6_sums(self):
        for n in range(1, 6):
            for table in some_tables(n):
                self.same(sums_below(n, table), plain_sums(n, table, True))
                self.same(sums_above(n, table), plain_sums(n, table, False))

    def test_8_tables_told_by_sums(self):
        for n in range(1, 7):
            for table in some_tables(n):
                as_told = told([exact(item) for item in table])
                self.same(told_below(n, sums_below(n, table)), as_told)
                self.same(sums_below(n, told_below(n, table)), as_told)
                self.same(told_above(n, sums_above(n, table)), as_told)
                self.same(sums_above(n, told_above(n, table)), as_told)

    def test_8_sums_with_mu(self):
        for n in range(1, 5):
            every = plain.partings_of(n)
            for table in some_tables(n):
                at = {p: exact(item) for p, item in zip(every, table)}
                low = [sum(plain_mu(p, t) * at[p] for p in every if plain.is_finer(p, t)) for t in every]
                high = [sum(plain_mu(p, r) * at[r] for r in every if plain.is_finer(p, r)) for p in every]
                self.same(told_below(n, table), told([Fraction(f) for f in low]))
                self.same(told_above(n, table), told([Fraction(f) for f in high]))

    def test_8_unit_tables(self):
        """Each table is a sum of these, so exactly one g belongs to it."""
        for n in range(1, 5):
            every = plain.partings_of(n)
            for place, _ in enumerate(every):
                unit = tuple((int(k == place), 1) for k in range(len(every)))
                self.same(told_below(n, sums_below(n, unit)), unit)
                self.same(told_above(n, sums_above(n, unit)), unit)

    def test_sizes_refused_first(self):
        for call in CALLS:
            for wrong in (*NO_INTEGERS, 0, 7):
                self.refuses(BadNumber, "n", call, wrong, None)

    def test_tables_refused(self):
        for call in CALLS:
            for wrong in (None, 3, "12345", {}, (), (1, 2, 3, 4), [1] * 6, iter([1] * 5), (None,) * 4):
                self.refuses(BadTable, -1, call, 3, wrong)
            for wrong in NO_AMOUNTS:
                self.refuses(BadTable, 3, call, 3, [1, (1, 2), 0, wrong, wrong])
                self.refuses(BadTable, 0, call, 1, (wrong,))

    def test_example(self):
        self.same(sums_below(2, (5, 3)), ((8, 1), (3, 1)))


class Counts(Case):
    def test_12_counts_by_touch(self):
        for n in range(1, 7):
            found = counts_by_touch(n)
            self.same(found, tuple(comb(n, k) * without_alone(k) for k in range(n + 1)))
            self.assertEqual(sum(found), len(partings(n)))
            self.same(found, tuple(sum(len(touched(p)) == k for p in partings(n)) for k in range(n + 1)))
        for wrong in (*NO_INTEGERS, 0, 7):
            self.refuses(BadNumber, "n", counts_by_touch, wrong)

    def test_12_without_alone(self):
        self.same([without_alone(k) for k in range(7)], [1, 0, 1, 1, 4, 11, 41])
        for wrong in (*NO_INTEGERS, -1, 7):
            self.refuses(BadNumber, "k", without_alone, wrong)

    def test_12_colours(self):
        for n in range(1, 5):
            for p in partings(n):
                for k in range(4):
                    ways = [row for row in product(range(k), repeat=n)
                            if all(row[a] == row[b] for a, b in plain.together(p))]
                    self.same(colour_count(p, k), len(ways))
                    self.same(colour_count(list(p), k), len(ways))
        self.same(colour_count(singles(6), 50), 50 ** 6)
        self.same(colour_count(singles(6), 0), 0)

    def test_12_falling_products(self):
        for n in range(1, 7):
            for m in range(9):
                found = sum(mu(singles(n), t) * colour_count(t, m) for t in partings(n))
                self.assertEqual(found, prod(m - k for k in range(n)))

    def test_colour_count_refuses(self):
        for wrong in (*NO_INTEGERS, -1, 51):
            self.refuses(BadNumber, "k", colour_count, (0, 1), wrong)
            self.refuses(BadNumber, "k", colour_count, (0, 2), wrong)
        for wrong, place in NO_PARTINGS:
            self.refuses(BadParting, place, colour_count, wrong, 2)
