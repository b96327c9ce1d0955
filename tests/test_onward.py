"""[130] to [132] and onward.py: count rows that go on to more names, and worlds fair to all names but one."""

from fractions import Fraction
from itertools import combinations, product

from mergerates.errors import BadNumber, BadTable
from mergerates.fair import is_fair, row_seen
from mergerates.firsts import lone_sums
from mergerates.likeness import same_chains
from mergerates.onward import goes_on, next_rates, next_stretch, refusal, total_ends
from mergerates.partings import partings
from mergerates.rows import lots_numbers, numbers_of, row_total, shapes, totals, trace_numbers
from mergerates.worlds import World
from tests import manyrows, plain
from tests.case import NO_AMOUNTS, NO_INTEGERS, Case
from tests.manyjoins import exact
from tests.test_fair import fair_worlds

PAIRS = [(m, k) for m in range(2, 6) for k in range(m + 1, 7)]
GREAT = 10 ** 12 - 1


def units(m, k):
    """For each shape of k names the trace on m names of the count row that is 1 there."""
    width = len(shapes(k))
    found = []
    for at in range(width):
        row = manyrows.spread(k, [int(place == at) for place in range(width)])
        trace = manyrows.traced_row(row, range(m))
        found.append([next(trace[p] for p in trace if manyrows.shape(p) == shape) for shape in shapes(m)])
    return found


def rows_that_go_on(m, k):
    """Traces on m names of count rows on k names."""
    for numbers in manyrows.count_rows(k)[::1 if k < 6 else 2]:
        yield trace_numbers(k, numbers, m)


def some_rows(m, k):
    """Count rows on m names that go on to k, and others."""
    yield from rows_that_go_on(m, k)
    yield from manyrows.count_rows(m)
    yield tuple((place + 1, GREAT - 2 * place) if place % 2 == 0 else (GREAT - 1, GREAT) for place in range(len(shapes(m))))


def solved(columns, goal):
    """The Fractions with which the columns add up to the goal; None if they depend on one another."""
    size = len(goal)
    rows = [[Fraction(column[at]) for column in columns] + [Fraction(goal[at])] for at in range(size)]
    for at in range(size):
        pivot = next((row for row in range(at, size) if rows[row][at] != 0), None)
        if pivot is None:
            return None
        rows[at], rows[pivot] = rows[pivot], rows[at]
        rows[at] = [number / rows[at][at] for number in rows[at]]
        for row in range(size):
            if row != at:
                rows[row] = [a - rows[row][at] * b for a, b in zip(rows[row], rows[at])]
    return [row[-1] for row in rows]


def corner_totals(m, numbers, k):
    """The totals at the corners of the count rows on k names with this trace."""
    columns = units(m, k)
    counts = [sum(manyrows.shape(p) == shape for p in partings(k)) for shape in shapes(k)]
    found = []
    for chosen in combinations(range(len(columns)), len(numbers)):
        shares = solved([columns[at] for at in chosen], numbers)
        if shares is not None and min(shares) >= 0:
            found.append(sum(counts[at] * share for at, share in zip(chosen, shares)))
    return found


class Stretch(Case):
    LISTS = ([0], [5], [(1, 2)], [3, 1, 2], [0, 0], [1, 5], [5, 1], [0, 1, 0], [0, 5, 1, 1], [1, 2, 3, 4, 5],
             [2, 3, 1, (1, 2), (7, 3)], [1, 0, 0, 1], [0, 0, 0, 0, 1], [GREAT, (1, GREAT), 1], [1] * 20, [3, 1] * 10)

    def test_132_the_rates_on_one_more_name(self):
        for rates in self.LISTS:
            for z in (0, 1, 2, -1, (1, 3), GREAT):
                found = next_rates(rates, z)
                self.same(next_rates(rates=tuple(rates), z=z), found)
                w = manyrows.amounts_of(found)
                self.assertEqual((len(w), w[-1]), (len(rates) + 1, manyrows.amounts_of([z])[0]))
                self.assertEqual([a + b for a, b in zip(w, w[1:])], manyrows.amounts_of(rates))
                self.assertTrue(all(isinstance(number, tuple) for number in found))

    def test_132_the_stretch(self):
        answers = []
        for rates in self.LISTS:
            found = next_stretch(rates)
            self.same(next_stretch(rates=tuple(rates)), found)
            asked = [Fraction(place, 6) for place in range(-3, 40)] + [Fraction(GREAT), Fraction(1, GREAT)]
            if found is not None:
                least, greatest = manyrows.amounts_of(found)
                asked += [least, greatest, least - Fraction(1, 100), greatest + Fraction(1, 100)]
            for z in asked:
                w = manyrows.amounts_of(next_rates(rates, plain.told(z)))
                inside = found is not None and least <= z <= greatest
                self.assertEqual(min(w) >= 0, inside)
            answers.append(found is None)
        self.assertEqual(set(answers), {True, False})
        self.same([next_stretch([5]), next_stretch([0])], [((0, 1), (5, 1)), ((0, 1), (0, 1))])
        self.same([next_stretch((0, 1, 0)), next_stretch((1, 5))], [None, ((4, 1), (5, 1))])

    def test_132_traces(self):
        for m in (2, 3, 4, 5):
            for rates in self.LISTS:
                if len(rates) == m - 1:
                    stretch = next_stretch(rates)
                    for z in stretch or ():
                        more = lots_numbers(m + 1, next_rates(rates, z))
                        self.same(trace_numbers(m + 1, more, m), lots_numbers(m, rates))

    def test_132_rows_one_lot_at_a_time_go_on(self):
        answers = []
        for m in (2, 3, 4, 5):
            for rates in product((0, 1, 3), repeat=m - 1):
                stretch = next_stretch(rates)
                found = goes_on(m, lots_numbers(m, rates), m + 1)
                if m >= 4:
                    self.assertEqual(found is None, stretch is None)
                else:
                    self.assertIsNotNone(found)
                    self.assertIsNotNone(stretch)
                answers.append((m, stretch is None))
        self.assertLessEqual({(4, True), (4, False), (5, True), (5, False)}, set(answers))

    def test_132_totals_tell_them(self):
        for m in (2, 3, 4, 5):
            found = {}
            for rates in product((0, 1, 2, (1, 2)), repeat=m - 1):
                told = totals(m, lots_numbers(m, rates))
                self.assertNotIn(told, found)
                found[told] = rates

    def test_refused(self):
        for call in (next_stretch, lambda rates: next_rates(rates, 0)):
            for wrong in (None, 5, "12", {0: 1}, [], (), [1] * 21, iter([1])):
                self.refuses(BadTable, -1, call, wrong)
            for wrong in (*NO_AMOUNTS, -1, (-1, 2)):
                self.refuses(BadTable, 1, call, [0, wrong, None])
        for wrong in NO_AMOUNTS:
            self.refuses(BadNumber, "z", next_rates, None, wrong)


class GoingOn(Case):
    def test_131_rows_that_go_on(self):
        for m, k in PAIRS:
            for numbers in rows_that_go_on(m, k):
                found = goes_on(m, numbers, k)
                self.assertEqual(len(found), len(shapes(k)))
                self.assertTrue(all(isinstance(number, tuple) and number[0] >= 0 for number in found))
                self.same(trace_numbers(k, found, m), numbers)
                self.same(refusal(m, numbers, k), None)

    def test_131_refused_exactly_if_they_do_not(self):
        answers = []
        for m, k in PAIRS:
            columns = units(m, k)
            for numbers in list(some_rows(m, k))[::1 if k < 6 else 2]:
                found = goes_on(m, numbers, k)
                y = refusal(m, numbers, k)
                self.assertEqual(found is None, y is not None)
                if found is None:
                    self.assertTrue(all(type(number) is int for number in y) and isinstance(y, tuple))
                    v = manyrows.amounts_of(numbers)
                    self.assertLess(sum(a * b for a, b in zip(y, v)), 0)
                    self.assertTrue(all(sum(a * b for a, b in zip(y, column)) >= 0 for column in columns))
                else:
                    taken = tuple(plain.told(number) for number in manyrows.amounts_of(numbers))
                    self.same(trace_numbers(k, found, m), taken)
                self.assertEqual(total_ends(m, numbers, k) is None, found is None)
                answers.append((m, k, found is None))
        self.assertLessEqual({(4, 5, True), (4, 5, False), (4, 6, True), (5, 6, True), (5, 6, False)}, set(answers))
        self.assertFalse(any(found for m, k, found in answers if m <= 3))

    def test_by_name_and_by_position(self):
        for m, k in PAIRS:
            numbers = manyrows.count_rows(m)[-1]
            for call in (goes_on, refusal, total_ends):
                self.same(call(m=m, numbers=list(numbers), k=k), call(m, numbers, k))

    def test_131_four_names(self):
        answers = []
        for p, d, t, f in product((0, 1, 2, 5), repeat=4):
            expected = 2 * d <= p + 4 * t and 2 * t <= 2 * p + 2 * f + d
            self.assertEqual(goes_on(4, (p, d, t, f), 5) is not None, expected)
            answers.append(expected)
        self.assertEqual(set(answers), {True, False})
        for edge, over in (((2, 1, 0, 0), (2, (3, 2), 0, 0)), ((0, 2, 1, 0), (0, (5, 2), 1, 0)),
                           ((1, 0, 1, 0), (1, 0, (4, 3), 0)), ((0, 0, 1, 1), (0, 0, (9, 8), 1))):
            self.assertIsNotNone(goes_on(4, edge, 5))
            self.same(goes_on(4, over, 5), None)

    def test_131_zeros(self):
        for m, k in PAIRS:
            nothing = (0,) * len(shapes(m))
            self.same(goes_on(m, nothing, k), ((0, 1),) * len(shapes(k)))
            self.same(total_ends(m, nothing, k), ((0, 1), (0, 1)))

    def test_131_totals_of_two_names(self):
        for k in range(3, 7):
            ratios = []
            for shape in shapes(k):
                every = [p for p in partings(k) if manyrows.shape(p) == shape]
                ratios.append(Fraction(len(every), sum(p[0] == p[1] for p in every)))
            for x in (0, 1, 7, (2, 3), GREAT):
                number, = manyrows.amounts_of([x])
                self.same(total_ends(2, (x,), k), (plain.told(number * min(ratios)), plain.told(number * max(ratios))))

    def test_131_totals_of_three_names(self):
        for x, y in product((0, 1, 2, (1, 2), GREAT), repeat=2):
            first, second = manyrows.amounts_of([x, y])
            self.same(total_ends(3, (x, y), 4), (plain.told(3 * first + second), plain.told(6 * first + second)))

    def test_131_totals(self):
        for m, k in PAIRS:
            for numbers in list(rows_that_go_on(m, k))[::1 if k < 6 else 3]:
                found = corner_totals(m, manyrows.amounts_of(numbers), k)
                self.same(total_ends(m, numbers, k), (plain.told(min(found)), plain.told(max(found))))

    def test_131_totals_lie_between(self):
        for m, k in PAIRS:
            for numbers in manyrows.count_rows(k)[::1 if k < 6 else 3]:
                least, greatest = total_ends(m, trace_numbers(k, numbers, m), k)
                self.assertTrue(exact(least) <= exact(row_total(k, numbers)) <= exact(greatest))

    def test_131_rows_seen(self):
        asked = 0
        for n, rates, w in fair_worlds((3, 4, 5)):
            for m in range(2, n):
                if is_fair(w, m):
                    self.assertIsNotNone(goes_on(m, row_seen(w, m), n))
                    asked += 1
        self.assertGreater(asked, 50)

    def test_sizes_of_answers(self):
        for m, k in PAIRS:
            numbers = list(some_rows(m, k))[-1]
            found = [number for row in (goes_on(m, numbers, k) or (), total_ends(m, numbers, k) or ()) for number in row]
            self.assertTrue(all(len(str(part)) <= 200 for number in found for part in number))
            self.assertTrue(all(len(str(number)) <= 200 for number in refusal(m, numbers, k) or ()))

    def test_refused(self):
        for call in (goes_on, refusal, total_ends):
            for wrong in (*NO_INTEGERS, 0, 1, 6, 7):
                self.refuses(BadNumber, "m", call, wrong, None, 0)
            for wrong in (*NO_INTEGERS, 0, 3, 4, 7):
                self.refuses(BadNumber, "k", call, 4, None, wrong)
            for wrong in (None, 5, "00", {0: 0}, (), (1,), (1, 1, 1), iter((0, 0))):
                self.refuses(BadTable, -1, call, 3, wrong, 4)
            for wrong in (*NO_AMOUNTS, -1, (-1, 2)):
                self.refuses(BadTable, 1, call, 4, (1, wrong, None, -1), 6)


def variants(n):
    """Worlds fair to n - 1 with the same row seen: counts worlds with other first rates."""
    for numbers in manyrows.count_rows(n)[::1 if n < 5 else 3]:
        rates = manyrows.counts_rates(n, [3 * number + 4 for number in numbers])
        first = partings(n)[-1]
        found = [rates]
        for factor, t in enumerate([t for t in partings(n)[:-1] if manyrows.touches(t) == n][::1 if n < 5 else 4]):
            changed = dict(rates)
            for p, number in manyrows.unseen_at(n, t).items():
                if number:
                    changed[first, p] = changed.get((first, p), 0) + number * (-1) ** (factor % 3 == 2)
            if min(changed.values()) >= 0:
                found.append(changed)
        yield numbers, [World(n, manyrows.moves_of(changed)) for changed in found]


class AllButOne(Case):
    """[130]: worlds fair to n - 1."""

    def test_130_same_rates_but_the_first(self):
        compared = 0
        for n in (3, 4, 5):
            for numbers, worlds in variants(n):
                for w, v in combinations(worlds, 2):
                    self.assertTrue(is_fair(w, n - 1) and is_fair(v, n - 1))
                    self.same(row_seen(w, n - 1), row_seen(v, n - 1))
                    for p in partings(n)[:-1]:
                        self.same(w.from_here(p), v.from_here(p))
                    self.same(same_chains(w, v), w == v)
                    compared += w != v
        self.assertGreater(compared, 20)

    def test_130_lone_pairs_and_totals(self):
        for n, w in [*[(n, w) for n in (3, 4, 5) for _, worlds in variants(n) for w in worlds],
                     *[(n, w) for n, rates, w in fair_worlds((3, 4, 5)) if is_fair(w, n - 1)]]:
            v = row_seen(w, n - 1)
            first = w.total_from(partings(n)[-1])
            R = exact(row_total(n - 1, v))
            self.assertEqual(set(lone_sums(w)), {first - R})
            least, greatest = total_ends(n - 1, v, n)
            self.assertTrue(exact(least) <= first <= exact(greatest))

    def test_130_two_fair_worlds(self):
        for n in (3, 4):
            worlds = [w for _, rates, w in fair_worlds([n]) if is_fair(w, n - 1)]
            for w, v in product(worlds, repeat=2):
                if row_seen(w, n - 1) == row_seen(v, n - 1):
                    self.assertTrue(all(w.from_here(p) == v.from_here(p) for p in partings(n)[:-1]))
                    self.same(same_chains(w, v), w == v)


class Numbers(Case):
    def test_128_names_that_matter_for_four(self):
        # The row of singles in the world of [128] is not by counts, the row seen by three names goes on.
        first = (0, 1, 2, 3)
        row = [int(p in ((0, 1, 0, 2), (0, 1, 2, 0), (0, 1, 1, 2), (0, 1, 2, 1), (0, 0, 1, 1))) for p in partings(4)]
        self.same(numbers_of(4, row), None)
        moves = [(first, p, number) for p, number in zip(partings(4)[:-1], row)]
        for p in partings(4):
            if len(set(p)) in (2, 3):
                moves += [(p, r, 1) for r in partings(4) if plain.is_finer(p, r) and len(set(r)) == len(set(p)) - 1]
        w = World(4, moves)
        self.same([row_seen(w, 3), lone_sums(w), total_ends(3, (1, 0), 4)], [(1, 0), (2, 2, 2, 2), ((3, 1), (6, 1))])
