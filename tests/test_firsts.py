"""[126], [129], [130], [133], [134] and firsts.py: first meetings, merges by threes, steady cuts."""

from fractions import Fraction
from functools import lru_cache
from itertools import combinations, permutations

from mergerates.errors import BadLot, BadParting, OtherSize
from mergerates.fair import is_fair, pair_rate, row_seen
from mergerates.firsts import apart_time, first_meeting, joins_all, lone_sums, pair_time, three_first
from mergerates.halves import cuts
from mergerates.means import question_time
from mergerates.partings import lot_parting, partings
from mergerates.rows import Counts, row_total
from mergerates.steady import is_steady
from mergerates.together import first_time
from mergerates.worlds import World, reached
from tests import many, manyjoins, manyrows, plain
from tests.case import NO_PARTINGS, Case
from tests.manyjoins import exact
from tests.test_fair import fair_worlds

FOUR = ((0, 1), (2, 3))


def some_worlds(sizes=(1, 2, 3, 4)):
    """Worlds of all kinds: counts worlds, changed ones, fair ones, loose moves, joins."""
    yield from many.all_worlds(sizes)
    for n, rates, w in fair_worlds([n for n in sizes if n > 2]):
        yield n, rates, w


def options(n, r):
    """Rows on n names with the pair rate r: all at once, pairs alone, and others where there are."""
    every = partings(n)
    found = [{every[0]: r}]
    if n > 2:
        found.append({lot_parting(pair, n): r for pair in combinations(range(n), 2)})
        found.append({every[0]: r - 1, **{lot_parting(pair, n): 1 for pair in combinations(range(n), 2)}})
    if n == 4:
        found.append({p: r for p in every if manyrows.shape(p) == (2, 2)})
        found.append({p: r // 2 for p in every if manyrows.shape(p) == (3, 1)})
        found.append({(0, 0, 1, 1): r, (0, 1, 0, 2): r, (0, 1, 2, 0): r, (0, 1, 1, 2): r, (0, 1, 2, 1): r})
    return found


@lru_cache(maxsize=None)
def paired_moves(n):
    """Lists of moves with a pair rate: at each parting one of the rows above, by chance, most of them all at once."""
    found = [tuple((p, partings(n)[0], 4) for p in partings(n)[1:])]
    for seed in range(24):
        chance = many.numbers(170 + seed)
        moves = []
        for p in partings(n)[1:]:
            rows = options(len(set(p)), 4)
            row = rows[next(chance) % len(rows)] if next(chance) % (1 + seed % 4) == 0 else rows[0]
            moves.extend((p, manyrows.plain_lifted(p, x), rate) for x, rate in row.items())
        found.append(tuple(moves))
    return tuple(found)


def paired_worlds(sizes=(2, 3, 4, 5)):
    """Tuples (n, r, world) of worlds with a pair rate r > 0."""
    for n in sizes:
        for moves in paired_moves(n)[::1 if n < 5 else 3]:
            w = World(n, moves)
            assert pair_rate(w) == 4
            yield n, 4, w
    for n, rates, w in fair_worlds(sizes):
        if n > 1 and pair_rate(w):
            yield n, pair_rate(w), w


def until(n, rates, met, first):
    """The mean time from first until the parting is one of those met, by the words of [19]."""
    return plain.time_until_outside(rates, [p for p in plain.partings_of(n) if not met(p)], first)


class Times(Case):
    def test_pair_times(self):
        answers = []
        for n, rates, w in some_worlds():
            for a, b in list(permutations(range(n), 2))[::1 if n < 4 else 5]:
                for start in partings(n)[::1 if n < 4 else 3]:
                    found = pair_time(w, a, b, start)
                    if start[a] == start[b]:
                        self.same(found, (0, 1))
                    else:
                        self.same(found, plain.told(until(n, rates, lambda p: p[a] == p[b], start)))
                    self.same(pair_time(world=w, a=a, b=b, start=list(start)), found)
                    answers.append(found is None)
        self.assertEqual(set(answers), {True, False})

    def test_126_pair_times(self):
        for n, r, w in paired_worlds((2, 3, 4)):
            for a, b in combinations(range(n), 2):
                for start in partings(n):
                    self.same(pair_time(w, a, b, start), (0, 1) if start[a] == start[b] else plain.told(Fraction(1, r)))

    def test_without_end(self):
        for n in (2, 3, 4):
            self.same(pair_time(World(n), 0, 1, partings(n)[-1]), None)
            self.same(first_meeting(World(n), [(0, 1)]), None)
            self.same(apart_time(World(n), (0, 1)), None)
        w = World(3, [((0, 1, 2), (0, 0, 1), 1), ((0, 1, 2), (0, 1, 1), 1)])
        self.same([pair_time(w, 0, 1, (0, 1, 2)), first_meeting(w, [(0, 1), (1, 2)])], [None, (1, 2)])
        self.same(pair_time(w, 0, 1, (0, 0, 1)), (0, 1))

    def test_first_meetings(self):
        answers = []
        for n, rates, w in some_worlds((2, 3, 4)):
            every = list(combinations(range(n), 2))
            first = partings(n)[-1]
            for pairs in ([every[0]], [every[-1][::-1]], every[:2], every[1:], every, [*every[:1], *every[:1]]):
                if pairs:
                    found = first_meeting(w, pairs)
                    expected = until(n, rates, lambda p: any(p[a] == p[b] for a, b in pairs), first)
                    self.same(found, plain.told(expected))
                    self.same(first_meeting(world=w, pairs=tuple(list(pair) for pair in pairs)), found)
                    answers.append(found is None)
        self.assertEqual(set(answers), {True, False})

    def test_times_apart(self):
        for n, rates, w in some_worlds((2, 3, 4)):
            for lot in plain.all_lots(n):
                if len(lot) >= 2:
                    expected = until(n, rates, lambda p: len({p[name] for name in lot}) < len(lot), partings(n)[-1])
                    self.same(apart_time(w, lot), plain.told(expected))
                    self.same(apart_time(world=w, lot=list(lot)[::-1]), apart_time(w, lot))

    def test_129_times_apart(self):
        asked = 0
        for n, rates, w in fair_worlds((3, 4, 5)):
            for m in range(2, n):
                if is_fair(w, m):
                    for k in range(2, m + 1):
                        R, _ = row_total(k, row_seen(w, k))
                        for lot in list(combinations(range(n), k))[::1 if n < 5 else 4]:
                            self.same(apart_time(w, lot), plain.told(Fraction(1, R)) if R > 0 else None)
                            asked += 1
        self.assertGreater(asked, 100)

    def test_94_meetings_in_join_worlds(self):
        for n, weights, j in manyjoins.all_joins((2, 3, 4)):
            every = list(combinations(range(n), 2))
            for pair in every:
                self.same(pair_time(j, *pair, partings(n)[-1]), question_time(j, lot_parting(pair, n)))
                self.same(first_meeting(j, [pair]), question_time(j, lot_parting(pair, n)))
            for pair, other in list(combinations(every, 2))[::1 if n < 4 else 3]:
                found = first_time(j, lot_parting(pair, n), lot_parting(other, n))
                self.same(first_meeting(j, [pair, other]), found)

    def test_130_lone_sums(self):
        for n, rates, w in some_worlds():
            first = partings(n)[-1]
            expected = tuple(sum(rates.get((first, lot_parting((x, y), n)), 0) for y in range(n) if y != x)
                             for x in range(n))
            self.same(lone_sums(w), expected)
            self.same(lone_sums(world=w), expected)
        self.same(lone_sums(World(1)), (0,))
        self.same(lone_sums(World(3, [((0, 1, 2), (0, 1, 0), 5), ((0, 1, 2), (0, 0, 0), 9)])), (5, 0, 5))

    def test_refused(self):
        w = World(3)
        for wrong, place in NO_PARTINGS:
            self.refuses(BadParting, place, pair_time, w, 9, 9, wrong)
        self.refuses(OtherSize, 2, pair_time, w, 9, 9, (0, 1))
        for wrong in (3, -1, True, None, 1.0, (0,), "0"):
            self.refuses(BadLot, 0, pair_time, w, wrong, wrong, (0, 1, 2))
            self.refuses(BadLot, 1, pair_time, w, 0, wrong, (0, 0, 2 - 1))
            self.refuses(BadLot, 0, first_meeting, w, [(0, wrong), (9, 9)])
            self.refuses(BadLot, 1, first_meeting, w, [(0, 1), (wrong, 1)])
        self.refuses(BadLot, 1, pair_time, w, 1, 1, (0, 0, 0))
        self.refuses(BadLot, 1, pair_time, World(1), 0, 0, (0,))
        for wrong in (None, 5, "01", {0: 1}, (), [], iter([(0, 1)])):
            self.refuses(BadLot, -1, first_meeting, w, wrong)
        for wrong in (None, 5, "01", {0: 1, 1: 0}, (), (0,), (1, 1), (0, 1, 2)):
            self.refuses(BadLot, 1, first_meeting, w, [(0, 1), wrong, None])
        self.refuses(BadLot, 0, first_meeting, World(1), [(0, 0)])
        for wrong, place in ((None, -1), (5, -1), ("01", -1), ((0, 3), 1), ((0, 0), 1), ((1, True), 1), ((), -1), ((2,), -1)):
            self.refuses(BadLot, place, apart_time, w, wrong)


class Threes(Case):
    def words(self, n, rates, w, four):
        """The words of [133]."""
        lot = tuple(sorted(four))
        threes = [y for y in plain.partings_of(4) if manyrows.shape(y) == (3, 1)]
        for p in reached(w):
            if len({p[name] for name in lot}) == 4:
                over = manyrows.goes_over(rates, lot, p)
                if not set(over) <= set(threes) or len({over.get(y, 0) for y in threes}) > 1:
                    return False
        return True

    def changed(self, n):
        """Worlds in which three of four names come first: counts worlds of threes, changed beyond what counts."""
        numbers = [3 if shape[0] == 3 and set(shape[1:]) <= {1} else 0 for shape in manyrows.shapes_of(n)]
        rates = manyrows.counts_rates(n, numbers)
        yield rates
        for place in range(0, len(rates), 4 if n < 5 else 37):
            yield plain.rates_told(many.changed(manyrows.moves_of(rates), place))

    def test_133_merges_by_threes(self):
        answers = []
        worlds = [(n, rates, w) for n, rates, w in some_worlds((4,))]
        for n in (4, 5):
            worlds += [(n, rates, World(n, manyrows.moves_of(rates))) for rates in self.changed(n)]
        worlds += [(4, plain.rates_told(w.moves), w) for n, r, w in paired_worlds((4,))]
        for n, rates, w in worlds:
            for four in ((0, 1, 2, 3), (3, 0, 2, 1), (n - 1, 1, 0, 2)):
                expected = self.words(n, rates, w, four)
                self.same(three_first(w, *four), expected)
                a, b, c, d = four
                self.same(three_first(world=w, a=a, b=b, c=c, d=d), expected)
                answers.append(expected)
        self.assertEqual(set(answers), {True, False})

    def test_133_rates_of_zero(self):
        self.same(three_first(World(4), 0, 1, 2, 3), True)
        first = (0, 1, 2, 3)
        threes = [(first, p, 2) for p in partings(4) if manyrows.shape(p) == (3, 1)]
        self.same(three_first(World(4, threes), 3, 1, 0, 2), True)
        self.same(three_first(World(4, threes[1:]), 3, 1, 0, 2), False)
        self.same(three_first(World(4, [*threes, ((0, 0, 1, 2), (0, 0, 0, 0), 1)]), 3, 1, 0, 2), True)
        self.same(three_first(World(4, [*threes, (first, (0, 0, 1, 1), 1)]), 3, 1, 0, 2), False)
        self.same(three_first(World(4, many.changed(threes, 2)), 3, 1, 0, 2), False)

    def test_133_k_pairs(self):
        for n, r, w in paired_worlds((2, 3, 4, 5)):
            every = list(combinations(range(n), 2))
            for k in range(1, min(len(every), 4) + 1):
                for pairs in list(combinations(every, k))[::1 if n < 4 else 5]:
                    self.assertGreaterEqual(exact(first_meeting(w, pairs)), Fraction(1, k * r))
                    if k == 1:
                        self.same(first_meeting(w, pairs), plain.told(Fraction(1, r)))

    def test_133_two_pairs_with_a_common_name(self):
        for n, r, w in paired_worlds((3, 4)):
            for a, b, c in list(permutations(range(n), 3))[::1 if n < 4 else 7]:
                self.assertGreater(exact(first_meeting(w, [(a, b), (b, c)])), Fraction(1, 2 * r))

    def test_133_two_pairs_of_four_names(self):
        answers = []
        worlds = [(n, r, w) for n, r, w in paired_worlds((4, 5))]
        # Threes from where four are apart, all at once from there on.
        for n in (4, 5):
            moves = [(p, partings(n)[0], 2) for p in partings(n) if 1 < len(set(p)) < 4]
            for p in partings(n):
                if len(set(p)) == 4:
                    moves += [(p, manyrows.plain_lifted(p, y), 1) for y in partings(4) if manyrows.shape(y) == (3, 1)]
            if n == 4:
                worlds.append((n, 2, World(n, moves)))
        for n, r, w in worlds:
            for four in ((0, 1, 2, 3), (0, 2, 1, n - 1), (n - 1, 1, 0, 2)):
                a, b, c, d = four
                found = exact(first_meeting(w, [(a, b), (c, d)]))
                self.assertGreaterEqual(found, Fraction(1, 2 * r))
                self.assertEqual(found == Fraction(1, 2 * r), three_first(w, a, b, c, d))
                if n >= 5 and is_fair(w, 4):
                    self.assertGreater(found, Fraction(1, 2 * r))
                answers.append(found == Fraction(1, 2 * r))
        self.assertEqual(set(answers), {True, False})

    def test_133_fair_to_four(self):
        asked = 0
        for n, rates, w in fair_worlds((5,)):
            if is_fair(w, 4) and pair_rate(w) > 0:
                found = exact(first_meeting(w, FOUR))
                self.assertGreater(found, Fraction(1, 2 * pair_rate(w)))
                asked += 1
        c = Counts(6, [1 if shape == (3, 1, 1, 1) else 0 for shape in manyrows.shapes_of(6)])
        self.assertGreater(exact(first_meeting(c, FOUR)), Fraction(1, 2 * pair_rate(c)))
        self.assertGreater(asked, 5)

    def test_refused(self):
        w = World(5)
        for wrong in (5, -1, True, None, 1.0, (0,), "0"):
            for place in range(4):
                names = [0, 1, 2, 3]
                names[place] = wrong
                self.refuses(BadLot, place, three_first, w, *names)
        self.refuses(BadLot, 1, three_first, w, 2, 2, 9, 9)
        self.refuses(BadLot, 3, three_first, w, 2, 1, 0, 1)
        self.refuses(BadLot, 3, three_first, World(3), 0, 1, 2, 3)


class Cuts(Case):
    def test_134_joins_all(self):
        answers = []
        for n, rates, w in some_worlds():
            for cut in partings(n):
                expected = all(r == partings(n)[0] for p, r in rates
                               if plain.is_finer(p, cut) and not plain.is_finer(r, cut))
                self.same(joins_all(w, cut), expected)
                self.same(joins_all(world=w, cut=list(cut)), expected)
                answers.append(expected)
        self.assertEqual(set(answers), {True, False})

    def test_134_any_parting(self):
        w = World(3, [((0, 1, 2), (0, 0, 1), 2), ((0, 0, 1), (0, 0, 0), 1)])
        self.same([joins_all(w, p) for p in partings(3)], [True, True, False, False, False])

    def test_134_steady_cuts(self):
        answers = []
        for n, r, w in paired_worlds((2, 3, 4, 5)):
            for cut in cuts(n):
                found = is_steady(w, cut)
                self.assertEqual(found, joins_all(w, cut))
                if found:
                    self.assertEqual({w.exit_from(p, cut) for p in plain.below(cut)}, {r})
                answers.append((n, found))
        self.assertLessEqual({(n, found) for n in (3, 4, 5) for found in (True, False)}, set(answers))

    def test_134_cuts_that_part_off_one_name(self):
        asked = set()
        for n, r, w in paired_worlds((2, 3, 4, 5)):
            whole = partings(n)[0]
            if all(is_steady(w, cut) for cut in cuts(n) if 1 in (cut.count(0), cut.count(1))):
                for p in partings(n)[1:]:
                    # For n <= 5 it holds from partings without an alone name, too.
                    self.same(w.from_here(p), [(whole, r)])
                asked.add(n)
        self.assertEqual(asked, {2, 3, 4, 5})

    def test_134_six_names(self):
        # From pairs and threes alone other moves may lead on, although the cuts with one name are steady.
        whole = (0,) * 6
        moves = [(p, whole, 3) for p in partings(6)[1:] if manyrows.shape(p) != (2, 2, 2)]
        for p in partings(6):
            if manyrows.shape(p) == (2, 2, 2):
                moves += [(p, manyrows.plain_lifted(p, x), 3) for x in ((0, 0, 1), (0, 1, 0), (0, 1, 1))]
        w = World(6, moves)
        self.same(pair_rate(w), 3)
        for cut in cuts(6):
            alone = 1 in (cut.count(0), cut.count(1))
            self.same(joins_all(w, cut), alone or cut.count(0) == 3)
            self.same(is_steady(w, cut), joins_all(w, cut))

    def test_refused(self):
        for wrong, place in NO_PARTINGS:
            self.refuses(BadParting, place, joins_all, World(3), wrong)
        self.refuses(OtherSize, 2, joins_all, World(3), (0, 1))
