"""[110], [111] and lotrows.py: rows of lots, their rates inside lots, three colours, and the triangle of cuts."""

from fractions import Fraction
from itertools import combinations, product

from mergerates.colours import alike_to_colours, row_exit
from mergerates.errors import BadLot, BadNumber, BadTable, NotOneLot
from mergerates.halves import cut_rates
from mergerates.lotrows import from_triangle, inside_rates, lot_row, lots_from_exits, triangle
from mergerates.partings import lot_parting, parting_of, partings
from tests import many, manyrows, plain
from tests.case import NO_AMOUNTS, NO_INTEGERS, Case

SIZES = (2, 3, 4, 5, 6)
CHOICES = ((0, 0, 1), (-2, 0, 3, 5), ((1, 2), (-7, 3), 4), (10 ** 14, 0, (1, 10 ** 14)))


def entries_on(n):
    """Lists of entries: the empty one, lots of two names and of all, many lots, and one lot several times."""
    lots = [lot for lot in plain.all_lots(n) if len(lot) >= 2]
    yield []
    yield [(lots[0], 1)]
    yield [(lots[-1], (2, 3))]
    yield [(lots[0], 1), (lots[-1], -4), (lots[0][::-1], (1, 2))]
    for seed, choice in enumerate(CHOICES):
        chance = many.numbers(150 + seed + n)
        yield [(lot, choice[next(chance) % len(choice)]) for lot in lots]


def row_of(n, entries):
    """The words of [110] and of the interface, as Fractions by partings."""
    found = {p: Fraction(0) for p in partings(n)}
    for lot, number in entries:
        found[lot_parting(lot, n)] += manyrows.amounts_of([number])[0]
    return found


def inside(n, entries, names):
    return sum((manyrows.amounts_of([number])[0] for lot, number in entries if set(lot) <= set(names)), Fraction(0))


class LotRows(Case):
    def test_rows_of_lots(self):
        for n in SIZES:
            for entries in entries_on(n):
                expected = tuple(plain.told(number) for number in row_of(n, entries).values())
                self.same(lot_row(n, entries), expected)
                self.same(lot_row(n=n, lots=tuple([list(lot)[::-1], number] for lot, number in entries)), expected)
        self.same(lot_row(2, ()), ((0, 1), (0, 1)))
        self.same(lot_row(3, [((0, 1), 1), ((1, 0), (-1, 1))]), ((0, 1),) * 5)

    def test_110_rates_inside_lots(self):
        for n in SIZES:
            for entries in entries_on(n):
                found = inside_rates(n, lot_row(n, entries))
                self.assertEqual(len(found), 2 ** n)
                for code, number in list(enumerate(found))[::1 if n < 6 else 3]:
                    names = [name for name in range(n) if code // 2 ** name % 2]
                    self.same(number, plain.told(inside(n, entries, names)))
                self.same(inside_rates(n=n, row=list(lot_row(n, entries))), found)

    def test_110_rates_inside_by_exits(self):
        for n in SIZES[1:-1]:
            for entries in entries_on(n):
                row = lot_row(n, entries)
                rate = inside_rates(n, row)
                for v in range(n):
                    others = [name for name in range(n) if name != v]
                    for size in range(1, n - 1):
                        for Z in combinations(others, size):
                            three = parting_of([0 if name in Z else 1 if name == v else 2 for name in range(n)])
                            cut = parting_of([0 if name in Z or name == v else 2 for name in range(n)])
                            more = Fraction(*row_exit(n, row, three)) - Fraction(*row_exit(n, row, cut))
                            code = sum(2 ** name for name in Z)
                            self.same(rate[code + 2 ** v], plain.told(Fraction(*rate[code]) + more))

    def test_110_told_by_exits(self):
        for n in SIZES[1:]:
            for entries in entries_on(n):
                row = lot_row(n, entries)
                amounts = manyrows.amounts_of(row)
                exits = [plain.exit_of_row(n, amounts, t) for t in partings(n)]
                told = [plain.told(number) for number in exits]
                self.same(lots_from_exits(n, told), row)
                self.same(lots_from_exits(n=n, exits=tuple(told)), row)
                other = [number if len(set(t)) in (2, 3) else (-5, 3) for t, number in zip(partings(n), told)]
                self.same(lots_from_exits(n, other), row)

    def test_110_exits_of_no_row_of_lots(self):
        for n in (3, 4):
            for seed in range(4):
                table = manyrows.by_chance(n, 160 + seed, (0, 1, -3, (1, 2)))
                found = lots_from_exits(n, table)
                self.assertTrue(all(isinstance(number, tuple) for number in found))
                self.same(len(found), len(table))

    def test_110_three_colours_tell_rows_of_lots(self):
        for n in (3, 4):
            rows = [lot_row(n, entries) for entries in entries_on(n)]
            for row, other in combinations(rows, 2):
                self.same(alike_to_colours(n, row, other, 3), row == other)
        self.same(alike_to_colours(3, (1, 0, 0, 0, 0), (0, (1, 2), (1, 2), (1, 2), 0), 2), True)

    def test_refused(self):
        for wrong in (*NO_INTEGERS, 0, 1, 7):
            self.refuses(BadNumber, "n", lot_row, wrong, None)
            self.refuses(BadNumber, "n", inside_rates, wrong, None)
        for wrong in (*NO_INTEGERS, 0, 1, 2, 7):
            self.refuses(BadNumber, "n", lots_from_exits, wrong, None)
        for wrong in (None, 5, "00000", {0: 0}, (0,) * 4, (0,) * 6):
            self.refuses(BadTable, -1, inside_rates, 3, wrong)
            self.refuses(BadTable, -1, lots_from_exits, 3, wrong)
        for wrong in NO_AMOUNTS:
            self.refuses(BadTable, 2, inside_rates, 3, (0, 0, wrong, None, 1))
            self.refuses(BadTable, 2, lots_from_exits, 3, (0, 0, wrong, None, 1))
        self.refuses(BadTable, 4, inside_rates, 3, (0, 0, 0, 0, 1))
        # A table of exits may have a number at singles.
        self.same(lots_from_exits(4, [0] * 14 + [1]), ((0, 1),) * 15)
        self.same(lots_from_exits(3, (0, 1, 1, 1, 1)), ((1, 1), (0, 1), (0, 1), (0, 1), (0, 1)))

    def test_refused_rows_that_are_no_rows_of_lots(self):
        every = partings(4)
        for number in (1, -1, (1, 2)):
            row = [0] * len(every)
            for p in ((0, 1, 1, 0), (0, 1, 0, 1), (0, 0, 1, 1)):
                row[every.index(p)] = number
                self.refuses(NotOneLot, p, inside_rates, 4, row)
            row[0] = row[1] = 5
            self.refuses(NotOneLot, (0, 0, 1, 1), inside_rates, 4, row)

    def test_refused_entries(self):
        for wrong in (None, 5, "01", {0: 1}, iter(())):
            self.refuses(BadTable, -1, lot_row, 3, wrong)
        good = ((0, 1), 1)
        for wrong in (None, 5, "01", {0: 1, 1: 2}, (), ((0, 1),), ((0, 1), 1, 1)):
            self.refuses(BadTable, 1, lot_row, 3, [good, wrong, None])
        for wrong in (None, 5, "01", (0, 3), (0, 0), (True, 1), (0, 1, 1), (-1, 0), {0: 1}):
            self.refuses(BadLot, 1, lot_row, 3, [good, (wrong, None), None])
        for wrong in ((), (2,), []):
            self.refuses(BadTable, 1, lot_row, 3, [good, (wrong, 1), ((9,), 1)])
        for wrong in NO_AMOUNTS:
            self.refuses(BadTable, 1, lot_row, 3, [good, ((1, 2), wrong), ((9,), 1)])


class Triangles(Case):
    def test_111_weights(self):
        numbers = (0, 1, 2, 5, -3, (1, 2), (7, 3), 10 ** 14)
        for a, b, c in product(numbers, repeat=3):
            first, second, third = manyrows.amounts_of([a, b, c])
            expected = [(second + third - first) / 2, (first + third - second) / 2, (first + second - third) / 2]
            self.same(triangle(a, b, c), tuple(plain.told(number) for number in expected))
            self.same(triangle(first=a, second=b, third=c), triangle(a, b, c))
            self.same(from_triangle(a, b, c), min(expected) >= 0)
            self.same(from_triangle(first=a, second=b, third=c), min(expected) >= 0)
            lots = [((1, 2), expected[0]), ((0, 2), expected[1]), ((0, 1), expected[2])]
            row = lot_row(3, [(lot, plain.told(number)) for lot, number in lots])
            # The cuts that part off 2, 1 and 0, in this order.
            self.same(cut_rates(3, row), tuple(plain.told(number) for number in (third, second, first)))

    def test_111_which_cut_rates_there_are(self):
        found = set()
        for row in product(range(7), repeat=4):
            found.add(tuple(top for top, _ in cut_rates(3, (*row, 0))))
        for third, second, first in product(range(7), repeat=3):
            expected = first <= second + third and second <= first + third and third <= first + second
            self.same(from_triangle(first, second, third), expected)
            self.assertEqual((third, second, first) in found, expected)

    def test_refused(self):
        for wrong in NO_AMOUNTS:
            for call in (triangle, from_triangle):
                self.refuses(BadNumber, "first", call, wrong, None, None)
                self.refuses(BadNumber, "second", call, 0, wrong, None)
                self.refuses(BadNumber, "third", call, (1, 2), 0, wrong)
