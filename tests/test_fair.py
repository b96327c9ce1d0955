"""[124] to [126], [129] and fair.py: worlds in which each so many names merge without memory."""

from fractions import Fraction
from itertools import combinations
from math import comb

from mergerates.errors import BadLot, BadNumber, BadParting, NotFair, OtherSize
from mergerates.fair import fair_to, going, is_fair, pair_rate, row_seen, unfair_at
from mergerates.leaving import Clock
from mergerates.partings import partings
from mergerates.rows import Counts, numbers_of, trace_numbers, trace_row
from mergerates.runs import meets, stays
from mergerates.worlds import World, reached
from tests import manyrows, plain
from tests.case import NO_INTEGERS, NO_PARTINGS, Case
from tests.manyjoins import exact

SIZES = (1, 2, 3, 4, 5)
EXAMPLE = World(3, [((0, 1, 2), (0, 0, 1), 2), ((0, 1, 2), (0, 0, 0), 1), ((0, 0, 1), (0, 0, 0), 4)])


def fair_worlds(sizes=SIZES):
    """Tuples (n, the rates above 0 as a dict of pairs, the world)."""
    for n in sizes:
        for moves in manyrows.fair_moves(n):
            yield n, plain.rates_told(moves), World(n, moves)


def worlds_fair_to(m, sizes=SIZES):
    """Those on more than m names that are fair to m."""
    for n, rates, w in fair_worlds([n for n in sizes if n > m]):
        if is_fair(w, m):
            yield n, rates, w


class Fair(Case):
    def test_124_going_over(self):
        for n, rates, w in fair_worlds(SIZES[:-1]):
            for lot in plain.all_lots(n)[1:]:
                for p in partings(n):
                    expected = sorted(manyrows.goes_over(rates, lot, p).items())
                    self.same(going(w, lot, p), expected)
        self.same(going(world=EXAMPLE, lot=[1, 0], p=[0, 1, 2]), [((0, 0), 3)])
        self.same(going(EXAMPLE, (2, 1, 0), (0, 1, 2)), [((0, 0, 0), 1), ((0, 0, 1), 2)])

    def test_124_which_worlds_are_fair(self):
        answers = []
        for n, rates, w in fair_worlds():
            for m in range(1, n + 1):
                expected = next(manyrows.unfair_pairs(n, rates, m), None)
                self.same(unfair_at(w, m), expected)
                self.same(is_fair(w, m), expected is None)
                self.same(is_fair(world=w, m=m), expected is None)
                self.same(unfair_at(world=w, m=m), unfair_at(w, m))
                answers.append((n, m, expected is None))
        for n in SIZES[2:]:
            for m in range(2, n):
                self.assertLessEqual({(n, m, True), (n, m, False)}, set(answers))
        self.assertTrue(all(found for n, m, found in answers if m in (1, n)))

    def test_124_the_greatest_number(self):
        found = set()
        for n, rates, w in fair_worlds():
            expected = max([m for m in range(1, n) if is_fair(w, m)], default=1)
            self.same(fair_to(w), expected)
            self.assertTrue(all(is_fair(w, m) for m in range(1, expected + 1)))
            found.add((n, expected))
        self.assertLessEqual({(1, 1), (2, 1), (3, 1), (3, 2), (4, 2), (4, 3), (5, 1), (5, 2), (5, 3), (5, 4)}, found)
        self.same(fair_to(world=World(1)), 1)

    def test_124_counts_worlds(self):
        for n in (2, 3, 4, 5, 6):
            for numbers in manyrows.count_rows(n)[::1 if n < 5 else 4]:
                c = Counts(n, numbers)
                self.same(fair_to(c), max(n - 1, 1))
                self.same([is_fair(c, m) for m in range(1, n + 1)], [True] * n)

    def test_125_the_row_seen(self):
        answers = []
        for n, rates, w in fair_worlds():
            for m in range(2, n):
                if is_fair(w, m):
                    v = row_seen(w, m)
                    self.same(row_seen(world=w, m=m), v)
                    self.assertTrue(sees(w, m, v))
                    for k in range(2, m):
                        self.same(row_seen(w, k), tuple(top for top, _ in trace_numbers(m, v, k)))
                else:
                    p = unfair_at(w, m)[1]
                    self.refuses(NotFair, p, row_seen, w, m)
                answers.append(is_fair(w, m))
        self.assertEqual(set(answers), {True, False})

    def test_125_fair_exactly_if_there_is_such_a_row(self):
        for n, rates, w in fair_worlds():
            for m in range(2, n):
                row = [exact(number) for number in trace_row(n, w.first_rates(), tuple(range(m)))]
                v = numbers_of(m, [plain.told(number) for number in row])
                self.assertEqual(v is not None and sees(w, m, tuple(top for top, _ in v)), is_fair(w, m))

    def test_125_rows_by_counts(self):
        for n, rates, w in fair_worlds((3, 4, 5)):
            if is_fair(w, n - 1):
                v = row_seen(w, n - 1)
                for p in partings(n)[1:-1]:
                    k = len(set(p))
                    self.same(numbers_of(k, w.row_at(p)), trace_numbers(n - 1, v, k))

    def test_refused(self):
        w = World(4)
        for wrong in (*NO_INTEGERS, 0, 5, -1):
            self.refuses(BadNumber, "m", is_fair, w, wrong)
            self.refuses(BadNumber, "m", unfair_at, w, wrong)
        for wrong in (*NO_INTEGERS, 0, 1, 4, -1):
            self.refuses(BadNumber, "m", row_seen, w, wrong)
        for n in (1, 2):
            for m in (1, 2):
                self.refuses(BadNumber, "m", row_seen, World(n), m)
        for wrong, place in NO_PARTINGS:
            self.refuses(BadParting, place, going, w, (9, 9), wrong)
        self.refuses(OtherSize, 3, going, w, None, (0, 1, 2))
        for wrong, place in ((None, -1), (3, -1), ("01", -1), ((0, 4), 1), ((0, 0), 1), ((1, True), 1), ((), -1)):
            self.refuses(BadLot, place, going, w, wrong, (0, 1, 2, 3))


def sees(w, m, v):
    """True if the rows of the world are as [125] says for the count row v of m names."""
    for p in partings(w.size)[1:]:
        k = len(set(p))
        row = w.row_at(p)
        if k < m and numbers_of(k, row) != trace_numbers(m, v, k):
            return False
        if k >= m:
            expected = tuple((number, 1) for number in manyrows.spread(m, v).values())
            if any(trace_row(k, row, lot) != expected for lot in combinations(range(k), m)):
                return False
    return True


class Pairs(Case):
    def test_126_pair_rates(self):
        answers = []
        for n, rates, w in fair_worlds():
            sums = set(manyrows.pair_sums(n, rates))
            expected = None if len(sums) > 1 else max(sums, default=0)
            self.same(pair_rate(w), expected)
            self.same(pair_rate(world=w), expected)
            if n >= 2:
                self.same(expected is not None, is_fair(w, 2))
            answers.append((n, expected is None))
        self.assertLessEqual({(1, False), (2, False), (3, True), (3, False), (4, True), (5, True)}, set(answers))
        self.same([pair_rate(World(1)), pair_rate(World(4)), pair_rate(World(2, [((0, 1), (0, 0), 7)]))], [0, 0, 7])
        # It is the sum of the row seen by two names.
        self.same(pair_rate(Counts(4, (1, 2, 3, 4))), 1 + 2 + 2 * 3 + 4)

    def test_126_mean_times(self):
        answers = []
        for n, rates, w in fair_worlds((2, 3, 4)):
            if all(not w.is_end(p) for p in partings(n)[1:]):
                rate = pair_rate(w)
                fair = all(Clock(w, [p for p in partings(n) if p[a] != p[b]]).level() is not None
                           for a, b in combinations(range(n), 2))
                self.assertEqual(fair, rate is not None)
                if fair:
                    levels = {Clock(w, [p for p in partings(n) if p[a] != p[b]]).level()
                              for a, b in combinations(range(n), 2)}
                    self.same(levels, {(1, rate)})
                answers.append(fair)
        self.assertEqual(set(answers), {True, False})


def apart_blocks(s, p, k):
    """The number of choices of k blocks of s that lie in k different blocks of p."""
    firsts = [s.index(label) for label in sorted(set(s))]
    return sum(len({p[name] for name in chosen}) == k for chosen in combinations(firsts, k))


class Times(Case):
    def test_129_k_names_apart(self):
        asked = 0
        for m in (2, 3, 4):
            for n, rates, w in worlds_fair_to(m):
                time = {p: exact(number) for p, number in zip(partings(n), stays(w))}
                for k in range(2, m + 1):
                    R = sum(numbers for numbers in manyrows.spread(k, row_seen(w, k)).values())
                    if R > 0:
                        for lot in combinations(range(n), k):
                            apart = [p for p in partings(n) if len({p[name] for name in lot}) == k]
                            # Other names may stay apart for ever; those of the lot do not.
                            found = [time[p] for p in apart if p in reached(w)]
                            self.assertEqual(sum(found), Fraction(1, R))
                        asked += 1
        self.assertGreater(asked, 30)

    def test_129_the_sums_for_each_parting(self):
        for m in (2, 3, 4):
            for n, rates, w in worlds_fair_to(m, (3, 4, 5)):
                for k in range(2, m + 1):
                    R = sum(numbers for numbers in manyrows.spread(k, row_seen(w, k)).values())
                    if R > 0:
                        for s in [s for s in partings(n) if len(set(s)) >= k][::1 if n < 5 else 7]:
                            time = dict(zip(partings(n), stays(w, s)))
                            found = sum(exact(time[p]) * apart_blocks(s, p, k) for p in partings(n)
                                        if plain.is_finer(s, p) and len(set(p)) >= k and time[p] != (0, 1))
                            self.assertEqual(found, Fraction(comb(len(set(s)), k), R))

    def test_129_traces_are_counts_worlds(self):
        for m in (2, 3, 4):
            for n, rates, w in worlds_fair_to(m, (3, 4)):
                for k in range(2, m + 1):
                    c = Counts(k, row_seen(w, k))
                    if sum(c.numbers) > 0:
                        for lot in combinations(range(n), k):
                            self.compare(n, w, lot, c)

    def compare(self, n, w, lot, c):
        """Stays and chances of being met of the traces on the lot, beside those of the counts world."""
        time = dict(zip(partings(n), stays(w)))
        chance = dict(zip(partings(n), meets(w)))
        for y, stay, met in list(zip(partings(c.size), stays(c), meets(c)))[1:]:
            held = [p for p in partings(n) if manyrows.trace(p, lot) == y]
            self.assertEqual(sum(exact(time[p]) for p in held), exact(stay))
            self.assertEqual(first_met(w, held), exact(met))
            if len(held) == 1:
                self.assertEqual(exact(chance[held[0]]), exact(met))

    def test_129_all_names_of_a_lot(self):
        for m in (2, 3):
            for n, rates, w in worlds_fair_to(m, (3, 4, 5)):
                if pair_rate(w) > 0:
                    for k in range(2, m + 1):
                        times = set()
                        for lot in combinations(range(n), k):
                            family = [p for p in partings(n) if len({p[name] for name in lot}) > 1]
                            times.add(Clock(w, family)(partings(n)[-1]))
                        self.assertEqual(len(times), 1)


def first_met(w, family):
    """The chance that the run from singles meets some parting of a family, by the moves into it."""
    chance = dict(zip(partings(w.size), meets(w)))
    found = exact(chance[partings(w.size)[-1]]) if partings(w.size)[-1] in family else Fraction(0)
    for p, r, rate in w:
        if r in family and p not in family:
            found += exact(chance[p]) * Fraction(rate, w.total_from(p))
    return found
