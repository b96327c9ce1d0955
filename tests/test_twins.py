"""[108], [109] and twins.py: the row of even lots that two colours cannot tell from a row."""

from fractions import Fraction
from itertools import combinations
from math import comb

from mergerates.amounts import plus
from mergerates.colours import alike_to_colours, unseen_rows
from mergerates.errors import BadNumber, BadTable
from mergerates.halves import cut_rates, halves
from mergerates.partings import lot_parting, partings
from mergerates.twins import has_true_twin, same_to_two, twin, twin_from_cuts, twin_number
from tests import manyrows, plain
from tests.case import NO_AMOUNTS, NO_INTEGERS, Case
from tests.test_halves import SIZES, even_lots_of, number_lists

FOUR = tuple(int(p == (0, 0, 1, 1)) for p in partings(4))


def is_row_of_even_lots(n, row):
    even = [lot_parting(lot, n) for lot in even_lots_of(n)]
    return all(number in (0, (0, 1)) or p in even for p, number in zip(partings(n), row))


def even_rows(n):
    """Rows of even lots."""
    for numbers in number_lists(n):
        number_at = {lot_parting(lot, n): number for lot, number in zip(even_lots_of(n), numbers)}
        yield tuple(number_at.get(p, 0) for p in partings(n))


def some_rows(n):
    return manyrows.rows_on(n)[::1 if n < 5 else 2 if n < 6 else 8]


class Twins(Case):
    def test_108_the_twin(self):
        for n in SIZES:
            for row in some_rows(n):
                found = twin(n, row)
                self.assertTrue(is_row_of_even_lots(n, found))
                self.same(halves(n, found), halves(n, row))
                self.same(twin(n, found), found)
                self.same(twin(n=n, row=list(row)), found)
                if n < 5:
                    self.same(alike_to_colours(n, row, found, 2), True)

    def test_108_the_half_of_a_row_of_even_lots(self):
        for n in SIZES:
            for row in even_rows(n):
                number_of = dict(zip(partings(n), manyrows.amounts_of(row)))
                lots = even_lots_of(n)
                for lot, number in zip(lots, halves(n, row)):
                    held = [big for big in lots if set(lot) <= set(big)]
                    expected = sum(number_of[lot_parting(big, n)] * Fraction(2) ** (1 - len(big)) for big in held)
                    self.same(number, plain.told(expected))

    def test_108_its_own_twin(self):
        for n in SIZES:
            for row in even_rows(n):
                self.same(twin(n, row), tuple(plain.told(number) for number in manyrows.amounts_of(row)))

    def test_108_only_one_row_of_even_lots(self):
        for n in (2, 3, 4):
            for row, other in combinations(list(even_rows(n)), 2):
                self.same(halves(n, row) == halves(n, other), manyrows.amounts_of(row) == manyrows.amounts_of(other))

    def test_108_sums(self):
        for n in SIZES[:-1]:
            rows = some_rows(n)
            for row, other in zip(rows, rows[1:]):
                both = [plain.told(a + b) for a, b in zip(manyrows.amounts_of(row), manyrows.amounts_of(other))]
                self.same(twin(n, both), tuple(plus(a, b) for a, b in zip(twin(n, row), twin(n, other))))

    def test_108_integers(self):
        for n in SIZES:
            for row in some_rows(n):
                if all(isinstance(number, int) for number in row):
                    self.assertTrue(all(2 ** (n - 1) * top % bottom == 0 for top, bottom in twin(n, row)))

    def test_108_twins_from_cuts(self):
        for n in SIZES:
            for numbers in number_lists(n):
                found = twin_from_cuts(n, numbers)
                self.assertTrue(is_row_of_even_lots(n, found))
                self.same(cut_rates(n, found), tuple(plain.told(number) for number in manyrows.amounts_of(numbers)))
                self.same(twin_from_cuts(n=n, numbers=list(numbers)), found)
            for row in some_rows(n):
                self.same(twin_from_cuts(n, cut_rates(n, row)), twin(n, row))

    def test_true_twins(self):
        answers = []
        for n in SIZES:
            for row in some_rows(n):
                expected = all(top >= 0 for top, _ in twin(n, row))
                self.same(has_true_twin(n, row), expected)
                self.same(has_true_twin(n=n, row=list(row)), expected)
                answers.append(expected)
        self.assertEqual(set(answers), {True, False})
        self.same(has_true_twin(2, (0, 0)), True)
        self.same(has_true_twin(2, (-1, 0)), False)

    def test_108_same_to_two(self):
        for n in (2, 3, 4):
            rows = [list(row) for row in manyrows.rows_on(n)[:8]]
            for row in rows:
                for other in rows:
                    self.same(same_to_two(n, row, other), halves(n, row) == halves(n, other))
                    self.same(same_to_two(n, row, other), alike_to_colours(n, row, other, 2))
                for gap in unseen_rows(n, 2):
                    moved = [plain.told(a + b) for a, b in zip(manyrows.amounts_of(row), gap)]
                    self.same(same_to_two(n=n, row=row, other=moved), True)
                self.same(same_to_two(n, row, twin(n, row)), True)

    def test_refused(self):
        for wrong in (*NO_INTEGERS, 0, 1, 7):
            for call in (twin, twin_from_cuts, has_true_twin, lambda n, row: same_to_two(n, row, None)):
                self.refuses(BadNumber, "n", call, wrong, None)
        for call in (twin, has_true_twin, lambda n, row: same_to_two(n, row, None),
                     lambda n, row: same_to_two(n, (0,) * 5, row)):
            for wrong in (None, 5, "00000", (0,) * 4, (0,) * 6):
                self.refuses(BadTable, -1, call, 3, wrong)
            for wrong in NO_AMOUNTS:
                self.refuses(BadTable, 2, call, 3, (0, 0, wrong, None, 1))
            self.refuses(BadTable, 4, call, 3, (0, 0, 0, 0, 1))
        for wrong in (None, (0,) * 5, (0,) * 2):
            self.refuses(BadTable, -1, twin_from_cuts, 3, wrong)
        for wrong in NO_AMOUNTS:
            self.refuses(BadTable, 1, twin_from_cuts, 3, (0, wrong, None))


class TwinsOfLots(Case):
    def test_109_twins_of_one_lot(self):
        for n in SIZES:
            for lot in plain.all_lots(n):
                if len(lot) >= 2:
                    row = tuple(int(p == lot_parting(lot, n)) for p in partings(n))
                    found = dict(zip(partings(n), twin(n, row)))
                    for even in even_lots_of(n):
                        expected = twin_number(len(lot), len(even)) if set(even) <= set(lot) else (0, 1)
                        self.same(found[lot_parting(even, n)], expected)

    def test_109_the_sums(self):
        for k in range(2, 13):
            for m in range(2, k + 1, 2):
                found = sum(comb(k - m, h - m) * Fraction(*twin_number(k, h)) * Fraction(2) ** (1 - h)
                            for h in range(m, k + 1, 2))
                self.assertEqual(found, Fraction(2) ** (1 - k))
                self.same(twin_number(size=k, part=m), twin_number(k, m))

    def test_109_told_numbers(self):
        self.same([twin_number(3, 2), twin_number(5, 4), twin_number(5, 2)], [(1, 2), (1, 2), (-1, 4)])
        self.same([twin_number(2, 2), twin_number(4, 4), twin_number(4, 2)], [(1, 1), (1, 1), (0, 1)])
        self.same(twin_number(12, 12), (1, 1))

    def test_109_two_blocks_of_two(self):
        found = dict(zip(partings(4), twin(4, FOUR)))
        expected = {lot_parting(lot, 4): (-1, 2) for lot in ((0, 2), (0, 3), (1, 2), (1, 3))}
        expected[(0, 0, 0, 0)] = (2, 1)
        self.same({p: number for p, number in found.items() if number != (0, 1)}, dict(sorted(expected.items())))

    def test_refused(self):
        for wrong in (*NO_INTEGERS, 0, 1, 13, -2):
            self.refuses(BadNumber, "size", twin_number, wrong, None)
        for wrong in (*NO_INTEGERS, 0, 1, 3, 5, 6, -2):
            self.refuses(BadNumber, "part", twin_number, 5, wrong)
