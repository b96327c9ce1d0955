"""[27], [28] and seen.py: worlds seen from a parting, below a parting, and with other names."""

from fractions import Fraction
from itertools import permutations, product

from mergerates.errors import BadLot, BadParting, OtherSize
from mergerates.leaving import Clock, leaving_time
from mergerates.partings import lifted, partings, renamed, seen_from, singles, whole
from mergerates.runs import meets, stays
from mergerates.seen import below_world, renamed_world, seen_world
from mergerates.worlds import World
from tests import many, plain
from tests.case import NO_INTEGERS, NO_PARTINGS, Case

S = (0, 1, 2)
T = (0, 0, 1)
W = (0, 0, 0)
EXAMPLE = World(3, [(S, T, 2), (S, W, 1), (T, W, 4)])


class Below(World):
    KIND = "below"


class Seen(Case):
    def test_27_rates(self):
        for n, rates, w in many.all_worlds():
            for p in partings(n):
                v = seen_world(w, p)
                self.assertIs(type(v), World)
                self.same(v.size, len(set(p)))
                for x, y in product(partings(v.size), repeat=2):
                    self.same(v(x, y), rates.get((lifted(p, x), lifted(p, y)), 0))
                self.assertEqual(seen_world(world=w, p=list(p)), v)

    def test_27_stays_and_meets(self):
        for n, rates, w in many.all_worlds():
            for p in partings(n):
                v = seen_world(w, p)
                time, met = dict(zip(partings(n), stays(w, p))), dict(zip(partings(n), meets(w, p)))
                self.same(stays(v), tuple(time[lifted(p, x)] for x in partings(v.size)))
                self.same(meets(v), tuple(met[lifted(p, x)] for x in partings(v.size)))

    def test_27_leaving_times(self):
        for n, rates, w in many.all_worlds():
            for p in partings(n):
                v = seen_world(w, p)
                for family in many.some_families(v.size):
                    seen, above = Clock(v, family), Clock(w, [lifted(p, x) for x in family])
                    for x in family:
                        self.same(seen(x), above(lifted(p, x)))

    def test_27_seen_twice(self):
        for n, rates, w in many.all_worlds():
            for p in partings(n):
                v = seen_world(w, p)
                for x in partings(v.size):
                    self.assertEqual(seen_world(v, x), seen_world(w, lifted(p, x)))

    def test_seen_from_singles_and_whole(self):
        for n, rates, w in many.all_worlds():
            self.assertEqual(seen_world(w, singles(n)), w)
            self.assertEqual(seen_world(w, whole(n)), World(1))

    def test_example(self):
        self.same(seen_world(EXAMPLE, T).moves, (((0, 1), (0, 0), 4),))
        self.same(seen_world(EXAMPLE, (0, 1, 1)).moves, ())


class BelowWorlds(Case):
    def test_28_rates(self):
        for n, rates, w in many.all_worlds():
            for t in partings(n):
                v = below_world(w, t)
                self.assertIs(type(v), World)
                self.same(v.size, n)
                for p, r in plain.comparable(n):
                    self.same(v(p, r), rates.get((p, r), 0) if plain.is_finer(r, t) else 0)
                self.assertEqual(below_world(world=w, t=list(t)), v)

    def test_28_exits(self):
        for n, rates, w in many.all_worlds():
            for s, t in plain.comparable(n):
                v = below_world(w, t)
                for p in plain.below(s):
                    self.same(v.exit_from(p, s), w.exit_from(p, s) - w.exit_from(p, t))

    def test_28_leaving_times(self):
        for n, rates, w in many.all_worlds():
            for s, t in plain.comparable(n):
                v = below_world(w, t)
                for p in plain.below(s):
                    found = leaving_time(v, plain.below(s), p)
                    if found is not None:
                        self.assertGreaterEqual(Fraction(*found), Fraction(*leaving_time(w, plain.below(s), p)))

    def test_below_whole_and_singles(self):
        for n, rates, w in many.all_worlds():
            self.assertEqual(below_world(w, whole(n)), w)
            self.assertEqual(below_world(w, singles(n)), World(n))

    def test_example(self):
        self.same(below_world(EXAMPLE, T).moves, ((S, T, 2),))
        self.same(below_world(EXAMPLE, (0, 1, 0)).moves, ())


class Renamed(Case):
    def test_rates(self):
        for n, rates, w in many.all_worlds((1, 2, 3)):
            for names in permutations(range(n)):
                v = renamed_world(w, names)
                self.assertIs(type(v), World)
                self.same(v.size, n)
                for p, r in plain.comparable(n):
                    self.same(v(renamed(p, names), renamed(r, names)), rates.get((p, r), 0))
                self.assertEqual(renamed_world(world=w, names=list(names)), v)

    def test_names_go_to_their_new_names(self):
        w = World(4, [((0, 1, 2, 3), (0, 0, 1, 2), 5), ((0, 0, 1, 2), (0, 0, 1, 0), 3)])
        self.same(renamed_world(w, (2, 0, 3, 1)).moves,
                  (((0, 1, 0, 2), (0, 0, 0, 1), 3), ((0, 1, 2, 3), (0, 1, 0, 2), 5)))

    def test_many_worlds_on_four_names(self):
        for w in many.worlds_on(4):
            for names in ((1, 2, 3, 0), (3, 1, 0, 2)):
                v = renamed_world(w, names)
                self.assertEqual(v, World(4, [(renamed(p, names), renamed(r, names), rate) for p, r, rate in w]))
                back = [names.index(name) for name in range(4)]
                self.assertEqual(renamed_world(v, back), w)

    def test_names_refused(self):
        for wrong in (None, 3, "abc", {0: 1}, iter(S)):
            self.refuses(BadLot, -1, renamed_world, EXAMPLE, wrong)
        for wrong in (*NO_INTEGERS, -1, 3):
            self.refuses(BadLot, 1, renamed_world, EXAMPLE, (2, wrong, 9))
        self.refuses(BadLot, 2, renamed_world, EXAMPLE, (0, 1, 1, 2))
        self.refuses(BadLot, 3, renamed_world, EXAMPLE, (0, 1, 2, 0))
        for short in ((), (0,), (2, 0)):
            self.refuses(BadLot, -1, renamed_world, EXAMPLE, short)


class Kinds(Case):
    def test_worlds_of_the_kind_world(self):
        low = Below(3, EXAMPLE.moves)
        for v in (seen_world(low, T), below_world(low, T), renamed_world(low, S), seen_world(low, S)):
            self.assertIs(type(v), World)
            self.same(v.KIND, "world")

    def test_the_world_stays_as_it_is(self):
        before = EXAMPLE.moves
        seen_world(EXAMPLE, T)
        below_world(EXAMPLE, T)
        renamed_world(EXAMPLE, (2, 1, 0))
        self.same(EXAMPLE.moves, before)

    def test_partings_refused(self):
        for call in (seen_world, below_world):
            for wrong, place in NO_PARTINGS:
                self.refuses(BadParting, place, call, EXAMPLE, wrong)
            self.refuses(OtherSize, 2, call, EXAMPLE, (0, 1))
            self.refuses(OtherSize, 4, call, EXAMPLE, (0, 1, 2, 3))

    def test_six_names(self):
        w = World(6, [(p, r, 10 ** 14 - place) for place, (p, r) in enumerate(many.strict_pairs(6))])
        p = (0, 0, 1, 2, 1, 3)
        v = seen_world(w, p)
        self.assertEqual(v.many, 45)
        for x, y, rate in v:
            self.assertEqual(rate, w(lifted(p, x), lifted(p, y)))
        self.assertEqual(seen_from(p, lifted(p, (0, 0, 1, 1))), (0, 0, 1, 1))
        self.assertEqual(below_world(w, p).many, 5)
        self.assertEqual(renamed_world(renamed_world(w, (5, 4, 3, 2, 1, 0)), (5, 4, 3, 2, 1, 0)), w)
