"""[136], [137] and both.py: all at once, by the number of blocks, by counts."""

from fractions import Fraction
from itertools import product

from mergerates.both import all_at_once, by_number, is_by_counts, number_weights, numbers_come
from mergerates.errors import BadNumber, BadTable
from mergerates.fair import is_fair
from mergerates.joins import Joins
from mergerates.likejoins import is_lot_parting
from mergerates.numbers import number_stays
from mergerates.partings import partings
from mergerates.rows import Counts
from mergerates.steady import steady_to
from mergerates.worlds import World
from tests import manyjoins, manyrows, plain
from tests.case import NO_AMOUNTS, NO_INTEGERS, Case
from tests.manyjoins import exact
from tests.test_firsts import some_worlds

LISTS = {
    1: ((0,), (1,), (-1,), ((1, 2),)),
    2: ((0, 0), (0, 3), (1, 3), (0, -1), (0, (1, 2))),
    3: tuple(product((0, 1, 2, 3), repeat=3)),
    4: tuple((0, *rest) for rest in product((0, 2, 3, 4, (7, 2)), repeat=3)) + ((1, 2, 3, 4), (0, 6, 8, 9), (0, 6, 8, 10)),
    5: ((0, 1, 1, 1, 1), (0, 6, 8, 9, 9), (0, 4, 6, 7, (15, 2)), (0, 4, 6, 7, 8), (0, 0, 0, 0, 1)),
    6: ((0, 1, 1, 1, 1, 1), (0, 8, 12, 14, 15, (31, 2)), (0, 1, 2, 3, 4, 5), (0, 0, 0, 0, 0, 0)),
}


def at_once(n, r):
    return World(n, [(p, partings(n)[0], r) for p in partings(n)[1:]])


def blocks(t):
    return len(set(t))


class AtOnce(Case):
    def test_136_all_at_once(self):
        answers = []
        for n, rates, w in some_worlds():
            r = rates.get((partings(n)[-1], partings(n)[0]), 0)
            expected = r if w == at_once(n, r) else None
            self.same(all_at_once(w), expected)
            self.same(all_at_once(world=w), expected)
            if n >= 3:
                self.assertEqual(expected is not None, steady_to(w) >= 2 and is_fair(w, 2))
            answers.append((n, expected is None))
        self.assertLessEqual({(1, False), (2, False), (3, True), (3, False), (4, True), (4, False)}, set(answers))

    def test_136_rates(self):
        for n in range(1, 7):
            for r in (0, 1, 7, 10 ** 14):
                self.same(all_at_once(at_once(n, r)), 0 if n == 1 else r)
        w = at_once(4, 5)
        for p in partings(4)[1:]:
            self.same(all_at_once(w + World(4, [(p, partings(4)[0], 1)])), None)
        self.same(all_at_once(w + World(4, [((0, 1, 2, 3), (0, 0, 1, 2), 1)])), None)
        self.same(all_at_once(World(3, [((0, 0, 1), (0, 0, 0), 2)])), None)

    def test_136_join_worlds(self):
        answers = []
        for n, weights, j in manyjoins.all_joins((3, 4)):
            whole_alone = all(weight == 0 for weight in j.weights[1:])
            self.assertEqual(is_fair(j, 2), whole_alone)
            self.same(all_at_once(j), j.weights[0] if whole_alone else None)
            answers.append(whole_alone)
        self.assertEqual(set(answers), {True, False})


def number_worlds(n):
    """Join worlds by number: those whose weights go by the sizes of blocks in the right way, and others."""
    for numbers in LISTS[n]:
        if numbers_come(n, numbers):
            weights = [exact(weight) for weight in number_weights(n, numbers)]
            yield Joins(n, [int(weight * 60) for weight in weights])


class ByNumber(Case):
    def test_137_by_number(self):
        answers = []
        for n, weights, j in manyjoins.all_joins():
            told = {}
            for t in partings(n):
                told.setdefault(blocks(t), set()).add(manyjoins.breaking_of(weights, t))
            single = all(len(rates) == 1 for rates in told.values())
            expected = tuple(min(told[k]) for k in range(1, n + 1)) if single else None
            self.same(by_number(j), expected)
            self.same(by_number(j=j), expected)
            self.same(is_by_counts(j), single)
            answers.append((n, single))
        self.assertLessEqual({(1, True), (2, True), (3, True), (3, False), (4, True), (4, False)}, set(answers))

    def test_137_worlds_by_number(self):
        for n in range(1, 6):
            for j in number_worlds(n):
                c = by_number(j)
                self.assertEqual((len(c), c[0]), (n, 0))
                self.same(is_by_counts(j), True)
                if n >= 3:
                    self.assertEqual(is_fair(j, 2), len(set(c[1:])) == 1)
                self.same(number_weights(n, c), tuple((weight, 1) for weight in j.weights))
                self.same(numbers_come(n, c), True)

    def test_137_times_by_number(self):
        for n in range(2, 6):
            for j in number_worlds(n):
                c = by_number(j)
                if c[1] > 0:
                    time = number_stays(j)
                    for k in range(2, n + 1):
                        found = sum(stirling(b, k) * exact(time[b - 1]) for b in range(k, n + 1))
                        self.assertEqual(found, Fraction(stirling(n, k), c[k - 1]))

    def test_137_by_counts(self):
        answers = []
        for n, rates, w in some_worlds():
            row_of = {}
            expected = True
            for p in partings(n):
                row = dict(zip(partings(blocks(p)), w.row_at(p)))
                alike = all(row[x] == row[y] for x in row for y in row if manyrows.shape(x) == manyrows.shape(y))
                expected = expected and alike and row_of.setdefault(blocks(p), row) == row
            self.same(is_by_counts(w), expected)
            self.same(is_by_counts(world=w), expected)
            answers.append((n, expected))
        self.assertLessEqual({(1, True), (2, True), (3, True), (3, False), (4, True), (4, False)}, set(answers))
        for n in (2, 3, 4, 5, 6):
            self.same(is_by_counts(Counts(n, range_list(n))), True)

    def test_137_rows_that_differ(self):
        w = World(3, [((0, 1, 2), (0, 0, 0), 1), ((0, 0, 1), (0, 0, 0), 2)])
        self.same(is_by_counts(w), False)
        self.same(is_by_counts(w + World(3, [((0, 1, 0), (0, 0, 0), 2), ((0, 1, 1), (0, 0, 0), 2)])), True)

    def test_137_weights_of_numbers(self):
        for n in range(1, 7):
            for numbers in LISTS[n]:
                c = manyrows.amounts_of(numbers)
                every = partings(n)
                expected = {r: -sum(mu(t, r) * c[blocks(t) - 1] for t in every if plain.is_finer(t, r))
                            for r in every[:-1]} if n < 6 else {}
                found = number_weights(n, numbers)
                self.same(number_weights(n=n, numbers=list(numbers)), found)
                self.same(found[-1], (0, 1))
                for r, number in zip(every, found):
                    if r in expected:
                        self.same(number, plain.told(expected[r]))
                come = c[0] == 0 and all(number[0] >= 0 for number in found)
                self.same(numbers_come(n, numbers), come)
                self.same(numbers_come(n=n, numbers=list(numbers)), come)

    def test_137_three_and_four(self):
        for numbers in LISTS[3]:
            a, b, c = manyrows.amounts_of(numbers)
            self.same(numbers_come(3, numbers), a == 0 and b <= c and 2 * c <= 3 * b)
        answers = []
        for numbers in LISTS[4]:
            a, b, c, d = manyrows.amounts_of(numbers)
            expected = (a == 0 and c <= d and b + d <= 2 * c and b + 2 * d <= 3 * c and 12 * c <= 7 * b + 6 * d)
            self.same(numbers_come(4, numbers), expected)
            answers.append(expected)
        self.assertEqual(set(answers), {True, False})

    def test_137_one_name_and_two(self):
        self.same([numbers_come(1, (0,)), numbers_come(1, (1,)), number_weights(1, ((5, 2),))], [True, False, ((0, 1),)])
        self.same([numbers_come(2, (0, 4)), numbers_come(2, (0, -1)), number_weights(2, (0, 4))],
                  [True, False, ((4, 1), (0, 1))])
        self.same([by_number(Joins(1, (0,))), by_number(Joins(2, (3, 0)))], [(0,), (0, 3)])

    def test_six_names(self):
        ring = Joins(6, [int(is_lot_parting(p) and blocks(p) == 5) for p in partings(6)])
        self.same([by_number(ring), is_by_counts(ring)], [None, False])
        numbers = (0, 8, 12, 14, 15, (31, 2))
        found = number_weights(6, numbers)
        for t in partings(6)[::20]:
            broken = plain.exit_of_row(6, manyrows.amounts_of(found), t)
            self.assertEqual(broken, manyrows.amounts_of(numbers)[blocks(t) - 1])
        self.same(numbers_come(6, (0, 1, 1, 1, 1, 1)), True)
        self.same(number_weights(6, (0, 1, 1, 1, 1, 1)), ((1, 1), *[(0, 1)] * 202))

    def test_refused(self):
        for call in (number_weights, numbers_come):
            for wrong in (*NO_INTEGERS, 0, 7, -1):
                self.refuses(BadNumber, "n", call, wrong, None)
            for wrong in (None, 5, "000", {0: 0}, (), (0, 0), (0,) * 4, iter((0, 0, 0))):
                self.refuses(BadTable, -1, call, 3, wrong)
            for wrong in NO_AMOUNTS:
                self.refuses(BadTable, 1, call, 3, (0, wrong, None))


def range_list(n):
    return list(range(1, 1 + len(manyrows.shapes_of(n))))


def stirling(n, k):
    return sum(blocks(t) == k for t in partings(n))


def mu(p, r):
    """The words of [6]."""
    found = 1
    for label in set(r):
        inside = len({p[name] for name in range(len(p)) if r[name] == label})
        for factor in range(1, inside):
            found *= -factor
    return found
