"""[121] to [123] and rows.py: shapes, rows by counts, their traces and totals, and counts worlds."""

from fractions import Fraction
from itertools import combinations

from mergerates.errors import BadLot, BadNumber, BadTable, NotJoins, OtherSize
from mergerates.joins import joins_of
from mergerates.likejoins import like_joins_at
from mergerates.means import stays_by_sums
from mergerates.partings import lot_parting, partings, shape_of
from mergerates.rows import (
    Counts, lots_numbers, numbers_of, row_total, shapes, spread, totals, trace_numbers, trace_row,
)
from mergerates.runs import stays
from mergerates.worlds import World
from tests import manyrows, plain
from tests.case import NO_AMOUNTS, NO_INTEGERS, Case

SIZES = (2, 3, 4, 5, 6)
NO_LISTS = (None, 5, "00", {0: 0}, iter((0, 0)))
BELOW = (-1, (-1, 2))


def told_row(row):
    """A row, a dict of numbers, as the program tells it."""
    return tuple(plain.told(number) for number in row.values())


def some_count_rows(m):
    """Count rows of integers and of fractions."""
    rows = manyrows.count_rows(m)[::1 if m < 6 else 4]
    return [*rows, tuple((place, 2) if place % 2 else place for place in range(len(rows[0])))]


def told_numbers(m, row):
    """The number at the first parting of each shape."""
    return tuple(plain.told(next(row[p] for p in partings(m) if shape_of(p) == shape)) for shape in shapes(m))


class Shapes(Case):
    def test_121_shapes(self):
        self.same([shapes(2), shapes(3)], [[(2,)], [(2, 1), (3,)]])
        self.same(shapes(4), [(2, 1, 1), (2, 2), (3, 1), (4,)])
        for m in SIZES:
            self.same(shapes(m), manyrows.shapes_of(m))
            self.same([len(shapes(m)), shapes(m)[-1]], [(0, 0, 1, 2, 4, 6, 10)[m], (m,)])
        self.same(shapes(m=5), shapes(5))
        shapes(3).append("more")
        self.same(shapes(3), [(2, 1), (3,)])

    def test_121_rows_by_counts(self):
        for m in SIZES:
            for numbers in some_count_rows(m):
                row = spread(m, numbers)
                self.same(row, told_row(manyrows.spread(m, manyrows.amounts_of(numbers))))
                self.same(spread(m=m, numbers=list(numbers)), row)
                self.same(numbers_of(m, row), tuple(plain.told(number) for number in manyrows.amounts_of(numbers)))

    def test_121_which_rows_are_by_counts(self):
        answers = []
        for m in SIZES:
            for row in manyrows.rows_on(m)[::1 if m < 6 else 6]:
                number_of = {}
                for p, number in manyrows.row_dict(m, row).items():
                    number_of.setdefault(manyrows.shape(p), set()).add(number)
                by_counts = all(len(numbers) == 1 for numbers in number_of.values())
                expected = told_numbers(m, manyrows.row_dict(m, row)) if by_counts else None
                self.same(numbers_of(m, row), expected)
                self.same(numbers_of(m=m, row=list(row)), expected)
                answers.append(by_counts)
        self.assertEqual(set(answers), {True, False})
        self.same(numbers_of(3, (-1, (-1, 2), (-1, 2), (-1, 2), 0)), ((-1, 2), (-1, 1)))
        self.same(numbers_of(3, (1, 2, 2, 3, 0)), None)

    def test_121_totals(self):
        for m in SIZES:
            for numbers in some_count_rows(m):
                expected = sum(manyrows.amounts_of(spread(m, numbers)))
                self.same(row_total(m, numbers), plain.told(expected))
                self.same(row_total(m=m, numbers=list(numbers)), row_total(m, numbers))
        self.same(row_total(4, (1, 10, 100, 1000)), (6 + 30 + 400 + 1000, 1))

    def test_lots_alone(self):
        for m in SIZES:
            rates = [(2 * i + 1, 2) for i in range(m - 1)]
            found = dict(zip(partings(m), spread(m, lots_numbers(m, rates))))
            for lot in plain.all_lots(m):
                if len(lot) >= 2:
                    self.same(found.pop(lot_parting(lot, m)), rates[len(lot) - 2])
            self.same(set(found.values()), {(0, 1)})
            self.same(lots_numbers(m=m, rates=tuple(rates)), lots_numbers(m, rates))
        self.same(lots_numbers(4, (1, 2, 3)), ((1, 1), (0, 1), (2, 1), (3, 1)))

    def test_refused(self):
        for wrong in (*NO_INTEGERS, 0, 1, 7, -2):
            for call in (shapes, lambda m: spread(m, None), lambda m: numbers_of(m, None),
                         lambda m: trace_numbers(m, None, 9), lambda m: lots_numbers(m, None),
                         lambda m: row_total(m, None), lambda m: totals(m, None)):
                self.refuses(BadNumber, "m", call, wrong)
        for call in (spread, row_total, totals, lambda m, numbers: trace_numbers(m, numbers, 2)):
            for wrong in (*NO_LISTS, (), (1,), (1, 1, 1)):
                self.refuses(BadTable, -1, call, 3, wrong)
            for wrong in (*NO_AMOUNTS, *BELOW):
                self.refuses(BadTable, 1, call, 4, (1, wrong, None, -1))
        for wrong in (*NO_LISTS, (), (1, 1), (1, 1, 1, 1)):
            self.refuses(BadTable, -1, lots_numbers, 4, wrong)
        for wrong in (*NO_AMOUNTS, *BELOW):
            self.refuses(BadTable, 1, lots_numbers, 4, (1, wrong, None))

    def test_refused_rows(self):
        for wrong in (*NO_LISTS, (0,) * 4, (0,) * 6):
            self.refuses(BadTable, -1, numbers_of, 3, wrong)
        for wrong in NO_AMOUNTS:
            self.refuses(BadTable, 2, numbers_of, 3, (0, 0, wrong, None, 1))
        self.refuses(BadTable, 4, numbers_of, 3, (0, 0, 0, 0, 1))


class Traces(Case):
    def test_122_traces_of_rows(self):
        for b in (1, *SIZES):
            for row in manyrows.rows_on(b)[::1 if b < 5 else 4 if b < 6 else 12]:
                for lot in plain.all_lots(b)[1:]:
                    expected = told_row(manyrows.traced_row(manyrows.row_dict(b, row), lot))
                    self.same(trace_row(b, row, lot), expected)
                    if b < 4:
                        self.same(trace_row(b=b, row=list(row), lot=list(lot)[::-1]), expected)

    def test_122_edges(self):
        row = (5, 1, 2, 3, 0)
        self.same(trace_row(3, row, (2,)), ((0, 1),))
        self.same(trace_row(3, row, (2, 0, 1)), tuple((number, 1) for number in row))
        self.same(trace_row(3, row, (0, 1)), ((6, 1), (0, 1)))
        self.same(trace_row(1, (0,), (0,)), ((0, 1),))

    def test_122_traces_of_count_rows(self):
        for m in SIZES:
            for numbers in some_count_rows(m):
                row = spread(m, numbers)
                for k in range(2, m + 1):
                    found = trace_numbers(m, numbers, k)
                    self.same(trace_numbers(m=m, numbers=list(numbers), k=k), found)
                    for lot in list(combinations(range(m), k))[::1 if m < 5 else 4]:
                        self.same(trace_row(m, row, lot), spread(k, found))
                    for less in range(2, k + 1):
                        self.same(trace_numbers(k, found, less), trace_numbers(m, numbers, less))
                self.same(found, tuple(plain.told(number) for number in manyrows.amounts_of(numbers)))

    def test_122_totals_of_traces(self):
        for m in SIZES:
            for numbers in some_count_rows(m):
                found = totals(m, numbers)
                self.same(found, tuple(row_total(k, trace_numbers(m, numbers, k)) for k in range(2, m + 1)))
                self.same(totals(m=m, numbers=list(numbers)), found)

    def test_132_totals_that_tell_too_little(self):
        self.same(totals(4, (1, 1, 0, 1)), ((3, 1), (7, 1), (10, 1)))
        self.same(totals(4, (1, 0, 1, 0)), ((3, 1), (7, 1), (10, 1)))

    def test_131_totals_of_four(self):
        for numbers in manyrows.count_rows(4):
            x, y = manyrows.amounts_of(trace_numbers(4, numbers, 3))
            total = Fraction(*row_total(4, numbers))
            self.assertTrue(3 * x + y <= total <= 6 * x + y)

    def test_131_what_five_leave_on_four(self):
        for numbers in manyrows.count_rows(5):
            p, d, t, f = manyrows.amounts_of(trace_numbers(5, numbers, 4))
            self.assertTrue(2 * d <= p + 4 * t and 2 * t <= 2 * p + 2 * f + d)

    def test_refused(self):
        for wrong in (*NO_INTEGERS, 0, 7, -2):
            self.refuses(BadNumber, "b", trace_row, wrong, None, (0, 0))
        for wrong, place in ((None, -1), (3, -1), ("01", -1), ((0, 3), 1), ((0, 0), 1), ((1, True), 1), ((), -1)):
            self.refuses(BadLot, place, trace_row, 3, None, wrong)
        for wrong in (*NO_LISTS, (0,) * 4, (0,) * 6):
            self.refuses(BadTable, -1, trace_row, 3, wrong, (0,))
        for wrong in NO_AMOUNTS:
            self.refuses(BadTable, 2, trace_row, 3, (0, 0, wrong, None, 1), (0,))
        self.refuses(BadTable, 4, trace_row, 3, (0, 0, 0, 0, 1), (0,))
        for wrong in (*NO_INTEGERS, 0, 1, 5):
            self.refuses(BadNumber, "k", trace_numbers, 4, None, wrong)


class CountsWorlds(Case):
    def test_123_moves(self):
        for n in SIZES[:-1]:
            for numbers in manyrows.count_rows(n)[::1 if n < 5 else 3]:
                c = Counts(n, numbers)
                self.same(c.moves, tuple(manyrows.moves_of(manyrows.counts_rates(n, numbers))))
                self.same((c.size, c.numbers, c.KIND, c.many), (n, numbers, "counts", len(c.moves)))
                self.same(Counts(size=n, numbers=list(numbers)).moves, c.moves)

    def test_123_rows(self):
        for n in SIZES:
            for numbers in manyrows.count_rows(n)[::1 if n < 6 else 5]:
                c = Counts(n, numbers)
                for p in partings(n)[1::1 if n < 6 else 9]:
                    k = len(set(p))
                    row = spread(k, trace_numbers(n, numbers, k))
                    self.same(c.row_at(p), tuple(top for top, _ in row))
                self.same(c.total_from(partings(n)[0]), 0)

    def test_numbers_at(self):
        for n in SIZES:
            for numbers in manyrows.count_rows(n)[::1 if n < 6 else 5]:
                c = Counts(n, numbers)
                for b in range(2, n + 1):
                    expected = tuple(top for top, _ in trace_numbers(n, numbers, b))
                    self.same(c.numbers_at(b), expected)
                    self.same(c.numbers_at(b=b), expected)
                self.same(c.numbers_at(n), c.numbers)

    def test_times(self):
        for n in (2, 3, 4):
            for numbers in manyrows.count_rows(n):
                for times in (0, 1, 3, 10 ** 14):
                    c = Counts(n, numbers, times=times)
                    self.same(c.numbers, tuple(number * times for number in numbers))
                    self.assertEqual(c, Counts(n, numbers) * times)

    def test_it_is_a_world(self):
        c = Counts(3, (2, 1))
        w = World(3, c.moves)
        self.assertEqual((c, w), (w, c))
        for found in (c + c, c * 2, c + w):
            self.same((type(found), found.KIND, found.moves), (World, "world", (w * 2).moves))
        self.same((list(c), c.lines()), (list(w), w.lines()))
        self.assertIsInstance(c, World)
        self.same((type(Counts.read(c.lines())), World.KIND), (World, "world"))
        self.assertEqual(Counts.read(c.lines()), c)
        self.same([c((0, 1, 2), (0, 0, 1)), c((0, 0, 1), (0, 0, 0))], [2, 3])
        self.same(Counts.line_of(((0, 1), (0, 0), 0)), "01 > 00 : 0")
        self.refuses(OtherSize, 2, lambda: c + Counts(2, (1,)))
        self.refuses(BadNumber, "k", lambda: c * -1)

    def test_46_which_of_them_are_join_worlds(self):
        answers = []
        for n in (2, 3, 4):
            for numbers in (*manyrows.count_rows(n), (0,) * (len(shapes(n)) - 1) + (7,)):
                c = Counts(n, numbers)
                unlike = [p for p in partings(n) if not like_joins_at(c, p)]
                # [137]: a join world that is fair to two names has no stroke but whole.
                self.assertEqual(unlike == [], n == 2 or not any(numbers[:-1]))
                if unlike:
                    self.refuses(NotJoins, unlike[0], joins_of, c)
                else:
                    j = joins_of(c)
                    self.same((j.KIND, j.moves, j.weights), ("joins", c.moves, c.first_rates()))
                    self.same(tuple(stays_by_sums(j)), stays(c))
                answers.append(unlike == [])
        self.assertEqual(set(answers), {True, False})

    def test_a_row_of_zeros(self):
        for n in SIZES:
            c = Counts(n, [0] * len(shapes(n)))
            self.same((c.moves, c.many), ((), 0))
            self.same(stays(c)[-1], None)

    def test_it_copies_what_it_is_given(self):
        numbers = [1, 2]
        c = Counts(3, numbers)
        numbers[0] = 9
        self.same((c.numbers, c.numbers_at(3)), ((1, 2), (1, 2)))

    def test_great_worlds(self):
        c = Counts(6, [10 ** 14 - place for place in range(10)])
        self.same(c.many, 2268)
        self.same(c.total_from(partings(6)[-1]), sum(c.first_rates()))

    def test_refused(self):
        for wrong in (*NO_INTEGERS, 0, 1, 7):
            self.refuses(BadNumber, "size", lambda: Counts(wrong, None, times=-1))
        for wrong in (*NO_INTEGERS, -1):
            self.refuses(BadNumber, "times", lambda: Counts(3, None, times=wrong))
        for wrong in (*NO_LISTS, (), (1,), (1, 1, 1)):
            self.refuses(BadTable, -1, Counts, 3, wrong)
        for wrong in (*NO_INTEGERS, -1, (1, 2), (2, 1)):
            self.refuses(BadTable, 1, Counts, 4, (1, wrong, None, -1))
        for wrong in (*NO_INTEGERS, 0, 1, 5, -1):
            self.refuses(BadNumber, "b", Counts(4, (1, 0, 0, 0)).numbers_at, wrong)
