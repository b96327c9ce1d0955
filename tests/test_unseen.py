"""[122], [127], [128], [135] and unseen.py: what few names tell of rows, and where names matter."""

from fractions import Fraction
from itertools import combinations, product
from math import comb, factorial

from mergerates.again import may_leave
from mergerates.colours import alike_to_colours, unseen_rows
from mergerates.errors import BadNumber, BadParting, BadTable, OtherSize
from mergerates.fair import is_fair, pair_rate
from mergerates.halves import cut_rates, cuts
from mergerates.likejoins import is_lot_parting
from mergerates.nesting import meeting_rates, nested
from mergerates.partings import lot_parting, partings
from mergerates.rows import Counts, numbers_of, shapes
from mergerates.tables import counts_by_touch, sums_above, without_alone
from mergerates.twins import twin
from mergerates.unseen import alike_to_names, lots_unseen, names_matter, unseen_by_names
from mergerates.worlds import World
from tests import manyjoins, manyrows, plain
from tests.case import NO_AMOUNTS, NO_INTEGERS, NO_PARTINGS, Case
from tests.test_fair import fair_worlds

SIZES = (1, 2, 3, 4, 5)


def alike(b, row, other, m):
    """The words of [122]."""
    first, second = manyrows.row_dict(b, row), manyrows.row_dict(b, other)
    return all(manyrows.traced_row(first, lot) == manyrows.traced_row(second, lot)
               for lot in plain.all_lots(b)[1:] if len(lot) <= m)


def added(row, other, factor=1):
    return tuple(plain.told(a + b * factor) for a, b in zip(manyrows.amounts_of(row), manyrows.amounts_of(other)))


def rank(rows):
    """The greatest number of rows of which none is a sum of multiples of the others."""
    left = [[Fraction(number) for number in row] for row in rows]
    found = 0
    for place in range(len(rows[0]) if rows else 0):
        pivot = next((row for row in left if row[place]), None)
        if pivot is not None:
            left.remove(pivot)
            left = [[a - b * row[place] / pivot[place] for a, b in zip(row, pivot)] for row in left]
            found += 1
    return found


def is_sum_of(rows, difference):
    """True if the difference is a sum of multiples of the rows."""
    return rank([*rows, difference]) == rank(rows) if rows else not any(difference)


class Alike(Case):
    def test_122_alike_to_names(self):
        answers = []
        for b in SIZES[:-1]:
            rows = manyrows.rows_on(b)[:14]
            for row, other in combinations(rows, 2):
                for m in range(1, b + 1):
                    expected = alike(b, row, other, m)
                    self.same(alike_to_names(b, row, other, m), expected)
                    answers.append((m, expected))
            for row in rows:
                self.same(alike_to_names(b=b, row=list(row), other=row, m=b), True)
        self.assertLessEqual({(1, True), (2, False), (4, False)}, set(answers))

    def test_122_changed_by_unseen_rows(self):
        for b in SIZES:
            for row in manyrows.rows_on(b)[::1 if b < 4 else 5]:
                for m in range(1, b + 1):
                    for factor, gap in enumerate(unseen_by_names(b, m)[::1 if b < 5 else 6]):
                        other = added(row, gap, Fraction(factor + 1, 2))
                        self.same(alike_to_names(b, row, other, m), True)
                    for place in range(len(row) - 1)[::1 if b < 5 else 9]:
                        other = added(row, [int(at == place) for at in range(len(row))])
                        self.same(alike_to_names(b, row, other, m), m == 1 or alike(b, row, other, m))
                self.same(alike_to_names(b, row, added(row, [1] * (len(row) - 1) + [0]), b), b == 1)

    def test_127_sums_of_unseen_rows(self):
        for b in (2, 3, 4):
            rows = manyrows.rows_on(b)[::2]
            for row, other in combinations(rows, 2):
                difference = [a - c for a, c in zip(manyrows.amounts_of(row), manyrows.amounts_of(other))]
                for m in range(1, b + 1):
                    found = is_sum_of(unseen_by_names(b, m), difference)
                    self.same(alike_to_names(b, row, other, m), found)

    def test_refused(self):
        for wrong in (*NO_INTEGERS, 0, 7, -1):
            for call in (unseen_by_names, lots_unseen, lambda b, m: alike_to_names(b, None, None, m)):
                self.refuses(BadNumber, "b", call, wrong, 0)
        for wrong in (*NO_INTEGERS, 0, 4, -1):
            for call in (unseen_by_names, lots_unseen, lambda b, m: alike_to_names(b, None, None, m)):
                self.refuses(BadNumber, "m", call, 3, wrong)
        good = (0,) * 5
        for call in (lambda row: alike_to_names(3, row, None, 2), lambda row: alike_to_names(3, good, row, 2)):
            for wrong in (None, 5, "00000", (0,) * 4, (0,) * 6):
                self.refuses(BadTable, -1, call, wrong)
            for wrong in NO_AMOUNTS:
                self.refuses(BadTable, 2, call, (0, 0, wrong, None, 1))
            self.refuses(BadTable, 4, call, (0, 0, 0, 0, 1))


class Unseen(Case):
    def test_127_the_rows(self):
        for b in SIZES:
            for m in range(1, b + 1):
                expected = [tuple(manyrows.unseen_at(b, t).values()) for t in partings(b) if manyrows.touches(t) > m]
                self.same(unseen_by_names(b, m), expected)
                self.same(unseen_by_names(b=b, m=m), expected)
        self.same(unseen_by_names(3, 2), [(1, -1, -1, -1, 0)])
        self.same([unseen_by_names(4, 4), unseen_by_names(1, 1)], [[], []])

    def test_127_sums_above(self):
        for b in SIZES[1:]:
            touching = [t for t in partings(b) if manyrows.touches(t) > 1]
            for t, row in zip(touching, unseen_by_names(b, 1)):
                sums = sums_above(b, row)[:-1]
                self.same(sums, tuple((int(p == t), 1) for p in partings(b)[:-1]))

    def test_127_how_many(self):
        for b in (*SIZES, 6):
            for m in range(1, b + 1):
                rows = unseen_by_names(b, m)
                self.same(len(rows), sum(comb(b, k) * without_alone(k) for k in range(m + 1, b + 1)))
                self.same(len(rows), sum(counts_by_touch(b)[m + 1:]))
                if b < 6:
                    self.same(rank(rows), len(rows))

    def test_127_they_are_unseen(self):
        for b in SIZES:
            for m in range(1, b + 1):
                for row in [*unseen_by_names(b, m), *lots_unseen(b, m)][::1 if b < 5 else 4]:
                    self.same(alike_to_names(b, row, (0,) * len(row), m), True)

    def test_127_rows_of_lots(self):
        for b in (*SIZES, 6):
            for m in range(1, b + 1):
                expected = []
                for lot in plain.all_lots(b):
                    if len(lot) > m and len(lot) >= 2:
                        number_at = {lot_parting(part, b): (-1) ** (len(lot) - len(part))
                                     for part in plain.all_lots(b) if len(part) >= 2 and set(part) <= set(lot)}
                        expected.append(tuple(number_at.get(p, 0) for p in partings(b)))
                self.same(lots_unseen(b, m), expected)
                self.same(lots_unseen(b=b, m=m), expected)
                if b < 6:
                    self.same(rank(expected), len(expected))
        self.same(lots_unseen(3, 2), [(1, -1, -1, -1, 0)])
        self.same(lots_unseen(2, 1), [(1, 0)])

    def test_127_sums_of_rows_of_lots(self):
        answers = []
        for b in (3, 4):
            lots = [place for place, p in enumerate(partings(b)[:-1]) if is_lot_parting(p)]
            rows = [row for row in manyrows.rows_on(b)
                    if all(number == 0 or place in lots for place, number in enumerate(row))]
            for m in range(1, b + 1):
                gaps = lots_unseen(b, m)
                others = [*rows, *[added(rows[2], gap, 3) for gap in gaps]]
                for row, other in combinations(others, 2):
                    difference = [a - c for a, c in zip(manyrows.amounts_of(row), manyrows.amounts_of(other))]
                    found = is_sum_of(gaps, difference)
                    self.same(alike_to_names(b, row, other, m), found)
                    answers.append(found)
        self.assertEqual(set(answers), {True, False})


class NamesMatter(Case):
    def test_128_where_they_matter(self):
        answers = []
        for n, rates, w in fair_worlds():
            for p in partings(n):
                k = len(set(p))
                expected = k > 1 and numbers_of(k, w.row_at(p)) is None
                self.same(names_matter(w, p), expected)
                self.same(names_matter(world=w, p=list(p)), expected)
                answers.append(expected)
        self.assertEqual(set(answers), {True, False})

    def test_128_only_from_four_blocks_on(self):
        found = set()
        for n, rates, w in fair_worlds((3, 4, 5)):
            for m in range(2, n):
                if is_fair(w, m):
                    for p in partings(n):
                        if names_matter(w, p):
                            self.assertTrue(len(set(p)) >= 4 and len(set(p)) > m)
                            found.add((n, m, len(set(p))))
        self.assertLessEqual({(4, 2, 4), (4, 3, 4), (5, 2, 4), (5, 2, 5), (5, 3, 4), (5, 4, 5)}, found)

    def test_128_one_lot_at_a_time(self):
        found = set()
        for n, m, gap in [(n, m, gap) for n in (4, 5) for m in range(2, n) for gap in lots_unseen(n, m)]:
            # From singles alone the row is another one, of lots too.
            c = Counts(n, [30 if set(shape[1:]) <= {1} else 0 for shape in shapes(n)])
            first = partings(n)[-1]
            row = [number + more for number, more in zip(c.row_at(first), gap)]
            moves = [move for move in c.moves if move[0] != first]
            w = World(n, moves + [(first, p, rate) for p, rate in zip(partings(n)[:-1], row)])
            self.assertTrue(is_fair(w, m))
            if names_matter(w, first):
                self.assertGreaterEqual(n, m + 2)
                found.add((n, m))
        self.assertEqual(found, {(4, 2), (5, 2), (5, 3)})

    def test_128_they_can(self):
        first = (0, 1, 2, 3)
        moves = [(first, p, 1) for p in ((0, 1, 0, 2), (0, 1, 2, 0), (0, 1, 1, 2), (0, 1, 2, 1), (0, 0, 1, 1))]
        for p in partings(4):
            if len(set(p)) in (2, 3):
                moves.extend((p, r, 1) for r in partings(4)
                             if plain.is_finer(p, r) and len(set(r)) == len(set(p)) - 1)
        w = World(4, moves)
        self.same([is_fair(w, 3), names_matter(w, first), pair_rate(w)], [True, True, 1])
        self.same([p for p in partings(4) if names_matter(w, p)], [first])

    def test_refused(self):
        for wrong, place in NO_PARTINGS:
            self.refuses(BadParting, place, names_matter, World(4), wrong)
        self.refuses(OtherSize, 3, names_matter, World(4), (0, 1, 2))


class ColoursAndNames(Case):
    def test_135_alike_to_colours_and_two_names(self):
        for b in (2, 3, 4, 5):
            gap, = unseen_rows(b, b - 1)
            for i, k in combinations(range(b), 2):
                together = [number for p, number in zip(partings(b), gap) if p[i] == p[k]]
                self.assertEqual(sum(together), (-1) ** b * factorial(b - 2))
            for row in manyrows.rows_on(b)[:6]:
                for factor in (1, Fraction(-2, 3), 0):
                    other = added(row, gap, factor)
                    self.same(alike_to_colours(b, row, other, b - 1), True)
                    self.same(alike_to_names(b, row, other, 2), factor == 0)

    def test_135_rows_of_lots_alike_to_names(self):
        for b in (3, 4, 5):
            gap = lots_unseen(b, b - 1)[-1]
            self.same(lots_unseen(b, b - 1), [gap])
            self.same(set(cut_rates(b, gap)), {((-1) ** b, 1)})
            lots = [int(is_lot_parting(p) and p != partings(b)[-1]) for p in partings(b)]
            for factor in (1, Fraction(-2, 3), 0):
                other = added(lots, gap, factor)
                self.same(alike_to_names(b, lots, other, b - 1), True)
                same = [first == second for first, second in zip(cut_rates(b, lots), cut_rates(b, other))]
                self.same(set(same), {factor == 0})

    def test_135_rows_by_counts_and_two_colours(self):
        answers = []
        for b in (2, 3, 4, 5):
            rows = [tuple(manyrows.spread(b, numbers).values()) for numbers in manyrows.count_rows(b)]
            for row, other in product(rows[:8], rows):
                shifted = added(other, twin(b, row)) if b < 4 else other
                for second in (other, shifted):
                    if numbers_of(b, second) is not None:
                        self.compare(b, row, second, answers)
                self.assertIsNotNone(numbers_of(b, twin(b, other)))
                self.compare(b, row, twin(b, row), answers)
        self.assertEqual(set(answers), {True, False})

    def compare(self, b, row, other, answers):
        rates = {}
        for t, first, second in zip(cuts(b), cut_rates(b, row), cut_rates(b, other)):
            rates[t.count(0)] = rates[b - t.count(0)] = first == second
        expected = all(rates.values())
        self.same(alike_to_colours(b, row, other, 2), expected)
        answers.append(expected)

    def test_135_nested_strokes(self):
        answers = []
        for n, weights, j in manyjoins.all_joins((3, 4)):
            if nested(j):
                rates = {rate for row in meeting_rates(j) for rate in row if rate is not None}
                alone = all(weight == 0 for weight in j.weights[1:])
                self.assertEqual(len(rates) == 1, alone)
                self.assertEqual(is_fair(j, 2), alone)
                answers.append(alone)
        self.assertEqual(set(answers), {True, False})

    def test_135_pairs_left_out(self):
        answers = []
        for n in (2, 3, 4):
            for weights in manyjoins.pair_tables(n):
                j = manyjoins.Joins(n, weights)
                for z in range(n):
                    expected = sum(x.count(x[z]) > 1 for x, _ in j.strokes()) <= 1
                    self.same(may_leave(j, z), expected)
                    answers.append(expected)
        self.assertEqual(set(answers), {True, False})
