"""[36], [39] and colours.py: exits of rows, rows alike to q colours, unseen rows."""

from fractions import Fraction
from itertools import product

from mergerates.colours import alike_to_colours, row_exit, seen_to, unlike_colouring, unseen_rows
from mergerates.errors import BadNumber, BadParting, BadTable, OtherSize
from mergerates.partings import count_of, partings, singles
from mergerates.tables import mu, sums_below
from mergerates.worlds import World
from tests import many, plain
from tests.case import NO_AMOUNTS, NO_INTEGERS, NO_PARTINGS, Case

NO_NAMES = (*NO_INTEGERS, 0, -1, 7)
BELL = (1, 1, 2, 5, 15, 52, 203)
ROW = (2, 0, 0, 0, 0)
OTHER = (0, 1, 1, 1, 0)


def some_rows(b):
    """Rows of integers and fractions, below 0 too."""
    size = BELL[b] - 1
    yield (0,) * size + (0,)
    yield tuple(range(1, size + 1)) + (0,)
    chance = many.numbers(b)
    yield [next(chance) % 9 - 4 for _ in range(size)] + [0]
    yield [plain.told(Fraction(next(chance) % 99 - 50, 1 + next(chance) % 12)) for _ in range(size)] + [(0, 1)]
    yield [plain.told(Fraction(next(chance) % 7 - 3, 2)) if place % 2 else place for place in range(size)] + [0]
    yield [10 ** 40 - 1 if place % 3 else plain.told(Fraction(-1, 10 ** 40 - 1)) for place in range(size)] + [0]


def exact(row):
    return [Fraction(*number) if isinstance(number, tuple) else Fraction(number) for number in row]


def combined(b, row, rows, factors):
    """The row plus the rows times the factors."""
    found = exact(row)
    for one, factor in zip(rows, factors):
        found = [number + factor * more for number, more in zip(found, one)]
    return tuple(plain.told(number) for number in found)


def rank(rows):
    """The number of rows that are no sums of multiples of the others."""
    left = [exact(row) for row in rows]
    many_found = 0
    for place in range(len(left[0]) if left else 0):
        lead = next((row for row in left if row[place] != 0), None)
        if lead is not None:
            many_found += 1
            left = [[a - b * row[place] / lead[place] for a, b in zip(row, lead)] for row in left if row is not lead]
    return many_found


class Exits(Case):
    def test_36_row_exit(self):
        for b in range(1, 6):
            for row in some_rows(b):
                for t in partings(b):
                    expected = plain.told(plain.exit_of_row(b, exact(row), t))
                    self.same(row_exit(b, row, t), expected)
                    self.same(row_exit(b=b, row=list(row), t=list(t)), expected)

    def test_36_exits_of_the_rows_of_worlds(self):
        for n, rates, w in many.all_worlds():
            for t in partings(n):
                self.same(row_exit(n, w.first_rates(), t), (w.exit_from(singles(n), t), 1))

    def test_seen_to(self):
        for b in range(1, 6):
            for row in some_rows(b):
                for q in range(1, b + 1):
                    expected = tuple(row_exit(b, row, t) for t in partings(b) if count_of(t) <= q)
                    self.same(seen_to(b, row, q), expected)
                    self.same(seen_to(b=b, row=list(row), q=q), expected)
        self.same(seen_to(3, ROW, 1), ((0, 1),))
        self.same(seen_to(3, OTHER, 2), ((0, 1), (2, 1), (2, 1), (2, 1)))
        self.same(seen_to(1, (0,), 1), ((0, 1),))

    def test_seen_to_on_six_names(self):
        row = [plain.told(Fraction(place - 90, 7)) for place in range(202)] + [0]
        for q, size in ((1, 1), (2, 32), (3, 122), (6, 203)):
            self.assertEqual(len(seen_to(6, row, q)), size)
        t = (0, 1, 1, 0, 2, 2)
        self.same(row_exit(6, row, t), plain.told(plain.exit_of_row(6, exact(row), t)))


class Alike(Case):
    def test_36_alike_to_colours(self):
        for b in range(1, 5):
            rows = list(some_rows(b))
            rows += [combined(b, rows[1], unseen_rows(b, q), [1, Fraction(2, 3), -1] * 9) for q in range(1, b)]
            for row, other in product(rows, repeat=2):
                exits = {t: [plain.exit_of_row(b, exact(one), t) for one in (row, other)] for t in partings(b)}
                for q in range(1, b + 1):
                    unlike = [t for t in partings(b) if count_of(t) <= q and exits[t][0] != exits[t][1]]
                    self.same(alike_to_colours(b, row, other, q), not unlike)
                    self.same(unlike_colouring(b, row, other, q), min(unlike, default=None))

    def test_example(self):
        self.same([alike_to_colours(3, ROW, OTHER, 2), unlike_colouring(3, ROW, OTHER, 3), unseen_rows(3, 2)],
                  [True, (0, 1, 2), [(-2, 1, 1, 1, 0)]])
        self.same(alike_to_colours(b=3, row=list(ROW), other=list(OTHER), q=3), False)
        self.same(unlike_colouring(b=3, row=ROW, other=OTHER, q=2), None)

    def test_36_any_rows_are_alike_to_one_colour(self):
        for b in range(1, 5):
            for row, other in product(some_rows(b), repeat=2):
                self.same(alike_to_colours(b, row, other, 1), True)

    def test_36_rows_alike_to_all_colours_are_equal(self):
        for b in range(1, 5):
            for row, other in product(some_rows(b), repeat=2):
                self.same(alike_to_colours(b, row, other, b), exact(row) == exact(other))

    def test_equal_rows_told_otherwise(self):
        self.same(alike_to_colours(3, (1, (1, 2), 0, -3, 0), [(1, 1), (1, 2), (0, 1), (-3, 1), (0, 1)], 3), True)

    def test_the_least_parting(self):
        self.same(unlike_colouring(3, (0, 1, 0, 0, 0), (0, 0, 0, 0, 0), 2), (0, 1, 0))
        self.same(unlike_colouring(3, (1, 0, 0, 0, 0), (0, 0, 0, 0, 0), 2), (0, 0, 1))
        self.same(unlike_colouring(4, unseen_rows(4, 3)[0], (0,) * 15, 4), (0, 1, 2, 3))

    def test_rows_on_six_names(self):
        row = tuple(range(-100, 102)) + (0,)
        for q in range(1, 6):
            other = combined(6, row, unseen_rows(6, q)[:5], [3, -1, Fraction(1, 7), 2, 9])
            self.same(alike_to_colours(6, row, other, q), True)
            self.same(alike_to_colours(6, row, other, q + 1), False)
            self.assertEqual(count_of(unlike_colouring(6, row, other, 6)), q + 1)


class Unseen(Case):
    def test_39_sums_below(self):
        for b in range(1, 6):
            for q in range(1, b):
                first, *rest = unseen_rows(b=b, q=q)
                ones = tuple((0, 1) if t == singles(b) else (1, 1) for t in partings(b))
                self.same(sums_below(b, first), ones)
                between = [t for t in partings(b) if q < count_of(t) < b]
                self.assertEqual(len(rest), len(between))
                for t, row in zip(between, rest):
                    self.same(sums_below(b, row), tuple((1, 1) if r == t else (0, 1) for r in partings(b)))

    def test_39_rows_of_integers(self):
        for b in range(1, 6):
            for q in range(1, b + 1):
                for row in unseen_rows(b, q):
                    self.assertIs(type(row), tuple)
                    self.assertEqual(len(row), BELL[b])
                    self.assertTrue(all(type(number) is int for number in row))
                    self.assertEqual(row[-1], 0)

    def test_39_none_for_all_colours(self):
        for b in range(1, 7):
            found = unseen_rows(b, b)
            self.same(found, [])
            found.append("more")
            self.same(unseen_rows(b, b), [])

    def test_39_exits(self):
        for b in range(1, 6):
            for q in range(1, b):
                for row in unseen_rows(b, q):
                    self.assertEqual(set(seen_to(b, row, q)), {(0, 1)})

    def test_39_as_many_as_partings_into_more_blocks_and_independent(self):
        for b in range(1, 6):
            for q in range(1, b):
                rows = unseen_rows(b, q)
                self.assertEqual(len(rows), len([t for t in partings(b) if count_of(t) > q]))
                self.assertEqual(rank(rows), len(rows))
        self.assertEqual([len(unseen_rows(6, q)) for q in range(1, 7)], [202, 171, 81, 16, 1, 0])

    def test_39_alike_exactly_if_the_difference_is_made_of_unseen_rows(self):
        for b in range(1, 5):
            for q in range(1, b):
                rows = unseen_rows(b, q)
                for row, other in product(some_rows(b), repeat=2):
                    difference = [a - c for a, c in zip(exact(row), exact(other))]
                    made = rank([*rows, difference]) == len(rows)
                    self.same(alike_to_colours(b, row, other, q), made)
                    alike = combined(b, row, rows, [Fraction(place - 2, 3) for place in range(len(rows))])
                    self.same(alike_to_colours(b, row, alike, q), True)

    def test_39_one_row_for_one_colour_less(self):
        for b in range(2, 7):
            expected = tuple(0 if x == singles(b) else -mu(singles(b), x) for x in partings(b))
            self.same(unseen_rows(b, b - 1), [expected])

    def test_39_worlds_that_differ_by_unseen_rows(self):
        # Such rows may be first rates of worlds: q colours tell the same exits of both.
        row, other = World(3, [((0, 1, 2), (0, 0, 0), 2)]), World(3, [((0, 1, 2), x, 1) for x in partings(3)[1:4]])
        self.same(alike_to_colours(3, row.first_rates(), other.first_rates(), 2), True)


class Refusals(Case):
    def calls(self, b, row, q):
        """All that take b, a row and q."""
        yield lambda: seen_to(b, row, q)
        yield lambda: alike_to_colours(b, row, None, q)
        yield lambda: unlike_colouring(b, row, None, q)

    def test_numbers_first(self):
        for wrong in NO_NAMES:
            self.refuses(BadNumber, "b", row_exit, wrong, None, None)
            self.refuses(BadNumber, "b", unseen_rows, wrong, 9)
            for call in self.calls(wrong, None, 9):
                self.refuses(BadNumber, "b", call)
        for wrong in NO_NAMES:
            self.refuses(BadNumber, "q", unseen_rows, 6, wrong)
            for call in self.calls(3, None, wrong):
                self.refuses(BadNumber, "q", call)

    def test_q_is_at_most_b(self):
        for b in range(1, 7):
            row = (0,) * BELL[b]
            self.refuses(BadNumber, "q", unseen_rows, b, b + 1)
            self.refuses(BadNumber, "q", unseen_rows, b, 0)
            for call in self.calls(b, row, b + 1):
                self.refuses(BadNumber, "q", call)

    def test_partings_before_rows(self):
        for wrong, place in NO_PARTINGS:
            self.refuses(BadParting, place, row_exit, 3, None, wrong)
        self.refuses(OtherSize, 2, row_exit, 3, None, (0, 1))
        self.refuses(OtherSize, 4, row_exit, 3, (0,), (0, 1, 2, 3))

    def rows_refused(self, place, wrong):
        self.refuses(BadTable, place, row_exit, 3, wrong, (0, 1, 2))
        for call in self.calls(3, wrong, 2):
            self.refuses(BadTable, place, call)
        for call in (alike_to_colours, unlike_colouring):
            self.refuses(BadTable, place, call, 3, (0, 0, 0, 0, 0), wrong, 1)

    def test_no_rows(self):
        for wrong in (None, 3, "abcde", {}, iter(ROW), (), (0,) * 4, (0,) * 6, [0] * 15):
            self.rows_refused(-1, wrong)

    def test_numbers_of_rows(self):
        for wrong in NO_AMOUNTS:
            self.rows_refused(1, (0, wrong, None, 0, 5))
            self.rows_refused(4, [0, 1, (1, 2), 0, wrong])

    def test_number_at_singles(self):
        for wrong in (1, -1, (1, 2), 10 ** 40):
            self.rows_refused(4, (0, 1, 2, 3, wrong))
        self.refuses(BadTable, 0, seen_to, 1, (1,), 1)
        self.refuses(BadTable, 202, seen_to, 6, (0,) * 202 + (1,), 1)

    def test_the_first_row_is_looked_at_first(self):
        for call in (alike_to_colours, unlike_colouring):
            self.refuses(BadTable, 4, call, 3, (0, 0, 0, 0, 1), None, 2)
            self.refuses(BadTable, -1, call, 3, (0, 0, 0, 0, 0), None, 2)
            self.refuses(BadTable, 2, call, 3, (0, 0, None, 0, 1), (None,) * 5, 2)
