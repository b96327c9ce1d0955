"""[106], [107] and halves.py: cuts, even lots, and the halves of rows."""

from fractions import Fraction
from itertools import combinations

from mergerates.colours import alike_to_colours
from mergerates.errors import BadLot, BadNumber, BadParting, BadTable
from mergerates.halves import (
    cut_rates, cuts, cuts_from_halves, even_at, even_lots, half, halves, halves_from_cuts,
)
from mergerates.partings import lot_parting, partings
from tests import many, manyrows, plain
from tests.case import NO_AMOUNTS, NO_INTEGERS, NO_PARTINGS, Case

SIZES = (2, 3, 4, 5, 6)


def cuts_of(n):
    return [p for p in plain.partings_of(n) if len(set(p)) == 2]


def even_lots_of(n):
    return [lot for size in (2, 4, 6) for lot in combinations(range(n), size)]


def is_even(x, lot):
    """The words of [106]."""
    return all(sum(x[name] == label for name in lot) % 2 == 0 for label in set(x))


def half_of(n, row, lot):
    return sum((number * Fraction(2) ** (len(set(x)) - n)
                for x, number in manyrows.row_dict(n, row).items() if is_even(x, lot)), Fraction(0))


def number_lists(n):
    """Numbers for the cuts or the even lots: zeros, single ones, and some by chance, below 0 and fractions too."""
    width = 2 ** (n - 1) - 1
    yield (0,) * width
    for at in range(0, width, 1 if n < 5 else 6):
        yield tuple(int(place == at) for place in range(width))
    for seed, choice in ((140, (0, 1, 2)), (141, (-3, 5, (1, 2), (-7, 3))), (142, (10 ** 14, (1, 10 ** 14), -1))):
        chance = many.numbers(seed + n)
        yield tuple(choice[next(chance) % len(choice)] for _ in range(width))


class Lots(Case):
    def test_106_cuts_and_even_lots(self):
        for n in SIZES:
            self.same(cuts(n), cuts_of(n))
            self.same(even_lots(n), even_lots_of(n))
            self.same(len(cuts(n)), 2 ** (n - 1) - 1)
            self.same(len(even_lots(n)), 2 ** (n - 1) - 1)
        self.same(cuts(2), [(0, 1)])
        self.same(even_lots(3), [(0, 1), (0, 2), (1, 2)])
        self.same(even_lots(n=4)[-2:], [(2, 3), (0, 1, 2, 3)])

    def test_106_even_at(self):
        for n in range(1, 6):
            for x in partings(n):
                for lot in plain.all_lots(n):
                    self.same(even_at(x, lot), is_even(x, lot))
                    self.same(even_at(x=list(x), lot=list(lot)[::-1]), is_even(x, lot))
        self.same(even_at((0, 0, 1, 1, 1, 1), (5, 0, 1, 4)), True)
        self.same(even_at((0,), ()), True)
        self.same(even_at((0,), (0,)), False)

    def test_refused(self):
        for wrong in (*NO_INTEGERS, 0, 1, 7, -2):
            self.refuses(BadNumber, "n", cuts, wrong)
            self.refuses(BadNumber, "n", even_lots, wrong)
        for wrong, place in NO_PARTINGS:
            self.refuses(BadParting, place, even_at, wrong, None)
        for wrong, place in ((None, -1), (3, -1), ("01", -1), ((0, 3), 1), ((0, 0), 1), ((1, True), 1), ((-1,), 0)):
            self.refuses(BadLot, place, even_at, (0, 1, 1), wrong)


class Halves(Case):
    def test_106_halves_and_cut_rates(self):
        for n in SIZES:
            for row in manyrows.rows_on(n)[::1 if n < 6 else 6]:
                found = halves(n, row)
                self.same(found, tuple(plain.told(half_of(n, row, lot)) for lot in even_lots_of(n)))
                self.same(halves(n=n, row=list(row)), found)
                for lot, number in list(zip(even_lots_of(n), found))[::1 if n < 5 else 5]:
                    self.same(half(n, row, lot), number)
                    self.same(half(n=n, row=list(row), lot=list(lot)[::-1]), number)
                rates = [plain.exit_of_row(n, manyrows.amounts_of(row), t) for t in cuts_of(n)]
                self.same(cut_rates(n, row), tuple(plain.told(number) for number in rates))
                self.same(cut_rates(n=n, row=list(row)), cut_rates(n, row))

    def test_106_singles_is_even_nowhere(self):
        for n in SIZES:
            for lot in even_lots_of(n):
                self.same(even_at(partings(n)[-1], lot), False)
                self.same(even_at(lot_parting(lot, n), lot), True)

    def test_107_cut_rates_by_halves(self):
        for n in SIZES:
            for row in manyrows.rows_on(n)[::1 if n < 6 else 6]:
                self.same(cuts_from_halves(n, halves(n, row)), cut_rates(n, row))
                self.same(halves_from_cuts(n, cut_rates(n, row)), halves(n, row))

    def test_107_the_words(self):
        for n in SIZES:
            for numbers in number_lists(n):
                pairs = list(zip(even_lots_of(n), manyrows.amounts_of(numbers)))
                expected = [2 * sum((number for lot, number in pairs if sum(cut[name] == 0 for name in lot) % 2 == 1),
                                    Fraction(0)) for cut in cuts_of(n)]
                self.same(cuts_from_halves(n, numbers), tuple(plain.told(number) for number in expected))
                pairs = list(zip(cuts_of(n), manyrows.amounts_of(numbers)))
                expected = [-Fraction(2) ** (1 - n) * sum(
                    (number * (-1) ** sum(cut[name] == 0 for name in lot) for cut, number in pairs), Fraction(0))
                    for lot in even_lots_of(n)]
                self.same(halves_from_cuts(n, numbers), tuple(plain.told(number) for number in expected))

    def test_107_each_rule_undoes_the_other(self):
        for n in SIZES:
            for numbers in number_lists(n):
                taken = tuple(plain.told(number) for number in manyrows.amounts_of(numbers))
                self.same(cuts_from_halves(n, halves_from_cuts(n, numbers)), taken)
                self.same(halves_from_cuts(n, cuts_from_halves(n, numbers)), taken)
                self.same(halves_from_cuts(n=n, numbers=list(numbers)), halves_from_cuts(n, numbers))
                self.same(cuts_from_halves(n=n, numbers=list(numbers)), cuts_from_halves(n, numbers))

    def test_108_rows_alike_to_two_colours(self):
        answers = []
        for n in (2, 3, 4):
            rows = manyrows.rows_on(n)
            for row, other in combinations(rows[:12], 2):
                found = halves(n, row) == halves(n, other)
                self.same(found, alike_to_colours(n, row, other, 2))
                answers.append(found)
        self.same(alike_to_colours(3, (2, 0, 0, 0, 0), (0, 1, 1, 1, 0), 2), True)
        self.same(halves(3, (2, 0, 0, 0, 0)), halves(3, (0, 1, 1, 1, 0)))
        self.assertIn(False, answers)

    def test_refused(self):
        for wrong in (*NO_INTEGERS, 0, 1, 7):
            for call in (halves, cut_rates, cuts_from_halves, halves_from_cuts):
                self.refuses(BadNumber, "n", call, wrong, None)
            self.refuses(BadNumber, "n", half, wrong, None, (0, 0))
        for call in (halves, cut_rates, lambda n, row: half(n, row, (0, 1))):
            for wrong in (None, 5, "00000", {0: 0}, (0,) * 4, (0,) * 6, ()):
                self.refuses(BadTable, -1, call, 3, wrong)
            for wrong in NO_AMOUNTS:
                self.refuses(BadTable, 2, call, 3, (0, 0, wrong, None, 1))
            self.refuses(BadTable, 4, call, 3, (0, 0, 0, 0, 1))
        for call in (cuts_from_halves, halves_from_cuts):
            for wrong in (None, 5, "000", {0: 0, 1: 0, 2: 0}, (0,) * 2, (0,) * 4, (), iter((0, 0, 0))):
                self.refuses(BadTable, -1, call, 3, wrong)
            for wrong in NO_AMOUNTS:
                self.refuses(BadTable, 1, call, 3, (0, wrong, None))
        for wrong, place in ((None, -1), ((0, 3), 1), ((0, 0), 1), ((True, 1), 0), ((), -1), ((1,), -1), ((0, 1, 2), -1)):
            self.refuses(BadLot, place, half, 3, None, wrong)
