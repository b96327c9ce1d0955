"""[19], [22], [23], [24] and leaving.py: exits, leaving times, families without memory, bounds."""

from fractions import Fraction

from mergerates.errors import BadParting, NotInside, OtherSize
from mergerates.leaving import Clock, exits, leaving_time, memoryless
from mergerates.partings import partings, singles, whole
from mergerates.runs import stays
from mergerates.worlds import World
from tests import many, plain
from tests.case import NO_PARTINGS, Case

S = (0, 1, 2)
T = (0, 0, 1)
U = (0, 1, 1)
W = (0, 0, 0)
EXAMPLE = World(3, [(S, T, 2), (S, W, 1), (T, W, 4)])


def families():
    for n, rates, w in many.all_worlds():
        for family in many.some_families(n):
            yield n, rates, w, family


def reached_inside(rates, family, p):
    found = {p}
    while True:
        more = found | {r for x, r in rates if x in found and r in family}
        if more == found:
            return found
        found = more


class Exits(Case):
    def test_19_exits(self):
        for n, rates, w, family in families():
            self.same(exits(w, family), tuple(plain.exit_of(rates, p, family) for p in family))

    def test_19_exits_below(self):
        for n, rates, w in many.all_worlds():
            for t in partings(n):
                family = plain.below(t)
                self.same(exits(w, family), tuple(w.exit_from(p, t) for p in family))

    def test_order_of_the_family(self):
        self.same(exits(EXAMPLE, [S, T]), (1, 4))
        self.same(exits(EXAMPLE, (T, S)), (4, 1))
        self.same(exits(world=EXAMPLE, family=[list(T), list(W), list(S)]), (0, 0, 0))
        self.same(exits(EXAMPLE, [S, W]), (2, 0))
        self.same(exits(EXAMPLE, [T]), (4,))
        self.same(exits(EXAMPLE, [W]), (0,))

    def test_19_without_memory(self):
        for n, rates, w, family in families():
            self.same(memoryless(w, family), len({plain.exit_of(rates, p, family) for p in family}) == 1)
        self.same(memoryless(world=EXAMPLE, family=[S, T]), False)
        self.same(memoryless(EXAMPLE, [S, T, U, W, (0, 1, 0)]), True)
        self.same(memoryless(World(1), [(0,)]), True)


class LeavingTimes(Case):
    def test_19_22_leaving_times(self):
        for n, rates, w, family in families():
            expected = {p: plain.told(plain.time_until_outside(rates, family, p)) for p in family}
            k = Clock(w, family)
            for p in family:
                self.same(k(p), expected[p])
            self.same(leaving_time(w, family, family[0]), expected[family[0]])
            self.same(leaving_time(w, family[::-1], list(family[-1])), expected[family[-1]])

    def test_22_sum_of_the_stays_inside(self):
        for n, rates, w in many.all_worlds():
            for p, t in plain.comparable(n):
                inside = stays(w, p, inside=t)
                found = leaving_time(world=w, family=plain.below(t), start=p)
                if None in inside:
                    self.same(found, None)
                else:
                    self.assertEqual(Fraction(*found), sum(Fraction(*time) for time in inside))

    def test_19_none_exactly_if_an_end_is_reached_inside(self):
        for n, rates, w, family in families():
            k = Clock(w, family)
            for p in family:
                ends = [r for r in reached_inside(rates, family, p) if w.is_end(r)]
                self.assertEqual(k(p) is None, len(ends) > 0)

    def test_a_run_may_come_back(self):
        # The time after the family has been left for the first time does not count.
        self.same(leaving_time(EXAMPLE, [S, W], S), None)
        self.same(leaving_time(World(3, [(S, T, 1), (T, W, 1)]), [S, W], S), (1, 1))
        self.same(Clock(World(3, [(S, T, 1), (T, W, 1)]), [S, W])(W), None)

    def test_23_the_same_time_exactly_without_memory(self):
        for n, rates, w, family in families():
            k = Clock(w, family)
            if not any(w.is_end(p) for p in family):
                times = {k(p) for p in family}
                self.assertEqual(len(times) == 1, memoryless(w, family))
                self.assertNotIn(None, times)
                if memoryless(w, family):
                    self.same(k.level(), plain.told(Fraction(1, exits(w, family)[0])))
                else:
                    self.same(k.level(), None)
            elif memoryless(w, family):
                self.assertEqual(set(exits(w, family)), {0})
                self.assertEqual({k(p) for p in family}, {None})
                self.same(k.level(), None)
            else:
                self.same(k.level(), None)

    def test_level_at_none_from_one_of_them(self):
        # S may stay for ever at U, and leaves from T: the family holds the end U.
        w = World(3, [(S, U, 1), (T, W, 1)])
        k = Clock(w, [S, T, U])
        self.same([k(S), k(T), k(U), k.level()], [None, (1, 1), None, None])
        self.same(Clock(w, [T]).level(), (1, 1))
        self.same(Clock(w, [U]).level(), None)

    def test_one_name(self):
        k = Clock(World(1), [(0,)])
        self.same([k((0,)), k.level(), k.bounds((0,))], [None, None, (0, 0)])
        self.same(leaving_time(World(1), [(0,)], (0,)), None)

    def test_rates_of_very_different_size(self):
        w = World(3, [(S, T, 10 ** 14), (S, W, 1), (T, W, 1)])
        self.same(leaving_time(w, [S, T], S), (1, 1))
        self.same(Clock(w, [S, T]).level(), (1, 1))
        v = World(3, [(S, T, 10 ** 14), (S, W, 1), (T, W, 2)])
        self.same(leaving_time(v, [S, T], S), (5 * 10 ** 13 + 1, 10 ** 14 + 1))
        self.same(Clock(v, [S, T]).level(), None)


class Clocks(Case):
    def test_example(self):
        k = Clock(EXAMPLE, [T, S])
        self.same([k(S), k(T), k.bounds(S), k.level()], [(1, 2), (1, 4), (1, 4), None])
        self.same(Clock(world=EXAMPLE, family=(list(T),))(p=list(T)), (1, 4))

    def test_24_bounds(self):
        for n, rates, w, family in families():
            k = Clock(w, family)
            for p in family:
                found = reached_inside(rates, family, p)
                outside = [plain.exit_of(rates, r, family) for r in found]
                self.same(k.bounds(p), (min(outside), max(outside)))
                if any(w.is_end(r) for r in found):
                    self.assertEqual(k.bounds(p)[0], 0)
                else:
                    self.bounded(k, p)

    def test_the_order_of_the_family_does_not_matter(self):
        for n, rates, w, family in families():
            there, back = Clock(w, family), Clock(w, family[::-1])
            for p in family:
                self.same((back(p), back.bounds(p), back.level()), (there(p), there.bounds(p), there.level()))

    def bounded(self, k, p):
        least, greatest = k.bounds(p)
        time = Fraction(*k(p))
        self.assertGreater(greatest, 0)
        self.assertGreaterEqual(time, Fraction(1, greatest))
        self.assertEqual(time == Fraction(1, greatest), least == greatest)
        if least > 0:
            self.assertLessEqual(time, Fraction(1, least))
            self.assertEqual(time == Fraction(1, least), least == greatest)

    def test_bounds_of_one(self):
        k = Clock(EXAMPLE, [T, S, U])
        self.same(k.bounds([0, 0, 1]), (4, 4))
        self.same(k.bounds(p=U), (0, 0))
        self.same(k(U), None)

    def test_a_clock_copies_its_family(self):
        family = [[0, 0, 1], [0, 1, 2]]
        k = Clock(EXAMPLE, family)
        family[0][2] = 0
        family.append([0, 1, 1])
        self.same([k(S), k(T), k.level()], [(1, 2), (1, 4), None])
        self.refuses(NotInside, -1, k, U)
        self.refuses(NotInside, -1, k, W)

    def test_clocks_of_one_world_are_apart(self):
        first, second = Clock(EXAMPLE, [T]), Clock(EXAMPLE, [S, T])
        self.refuses(NotInside, -1, first, S)
        self.same(second(S), (1, 2))


class Refusals(Case):
    def each(self, kind, told, family, start=None):
        """All that take a family; those that take a start, too, look at the family first."""
        self.refuses(kind, told, exits, EXAMPLE, family)
        self.refuses(kind, told, memoryless, EXAMPLE, family)
        self.refuses(kind, told, Clock, EXAMPLE, family)
        self.refuses(kind, told, leaving_time, EXAMPLE, family, start)

    def test_no_family(self):
        for wrong in (None, 3, "abc", (), [], {S: T}, iter([S]), EXAMPLE):
            self.each(BadParting, -1, wrong)

    def test_partings_of_a_family(self):
        for wrong, _ in NO_PARTINGS:
            self.each(BadParting, 0, [wrong, S, S])
            self.each(BadParting, 2, [(0, 1), S, wrong, None])

    def test_partings_met_before(self):
        self.each(BadParting, 1, [S, S, None])
        self.each(BadParting, 1, [S, list(S)])
        self.each(BadParting, 3, [S, (0, 1), T, (0, 1), (0, 2)])
        self.each(BadParting, 1, [S, (0, 2), S])

    def test_sizes_of_a_family(self):
        self.each(OtherSize, 2, [S, (0, 1), (0, 1, 2, 3)], S)
        self.each(OtherSize, 4, [(0, 1, 2, 3), (0, 1)], (0,))

    def test_start_of_a_leaving_time(self):
        for wrong, place in NO_PARTINGS:
            self.refuses(BadParting, place, leaving_time, EXAMPLE, [(0, 1), T], wrong)
        self.refuses(OtherSize, 2, leaving_time, EXAMPLE, [S], (0, 1))
        self.refuses(OtherSize, 4, leaving_time, EXAMPLE, [S, (0, 1, 2, 3)], (0, 1))
        for p in (T, W, U):
            self.refuses(NotInside, -1, leaving_time, EXAMPLE, [S, (0, 1, 0)], p)

    def test_start_of_a_clock(self):
        k = Clock(EXAMPLE, [S, T])
        for call in (k, k.bounds):
            for wrong, place in NO_PARTINGS:
                self.refuses(BadParting, place, call, wrong)
            self.refuses(OtherSize, 2, call, (0, 1))
            self.refuses(OtherSize, 4, call, whole(4))
            for p in (W, U, (0, 1, 0)):
                self.refuses(NotInside, -1, call, p)

    def test_a_refused_call_changes_nothing(self):
        k = Clock(EXAMPLE, [S, T])
        self.refuses(NotInside, -1, k, W)
        self.same([k(singles(3)), k(T)], [(1, 2), (1, 4)])
