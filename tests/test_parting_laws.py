"""[7], [9], [10], [13]: what holds for all partings, asked of all of up to four or five names."""

from itertools import product

from mergerates.partings import (
    count_of, finer, join, join_all, lifted, lots_of, meet, partings, seen_from, together, trace,
)
from mergerates.tables import mu
from tests import plain
from tests.case import Case


def lots(n):
    """All lots but the empty one."""
    return [lot for size in range(1, n + 1) for lot in lots_of(n, size)]


def others(p, z):
    """The names of z's block without z."""
    return [name for name in range(len(p)) if name != z and together(p, name, z)]


class JoinAndMeet(Case):
    def test_7_commutative(self):
        for n in range(1, 6):
            for p, r in product(partings(n), repeat=2):
                self.assertEqual(join(p, r), join(r, p))
                self.assertEqual(meet(p, r), meet(r, p))

    def test_7_associative(self):
        for n in range(1, 5):
            for p, r, t in product(partings(n), repeat=3):
                self.assertEqual(join(join(p, r), t), join(p, join(r, t)))
                self.assertEqual(meet(meet(p, r), t), meet(p, meet(r, t)))

    def test_7_least_and_greatest(self):
        for n in range(1, 5):
            for p, r in product(partings(n), repeat=2):
                top = join(p, r)
                low = meet(p, r)
                self.assertTrue(plain.is_finer(p, top) and plain.is_finer(r, top))
                self.assertTrue(plain.is_finer(low, p) and plain.is_finer(low, r))
                for t in partings(n):
                    if plain.is_finer(p, t) and plain.is_finer(r, t):
                        self.assertTrue(plain.is_finer(top, t))
                    if plain.is_finer(t, p) and plain.is_finer(t, r):
                        self.assertTrue(plain.is_finer(t, low))

    def test_7_absorption(self):
        for n in range(1, 6):
            for p, r in product(partings(n), repeat=2):
                self.assertEqual(join(p, meet(p, r)), p)
                self.assertEqual(meet(p, join(p, r)), p)


class Traces(Case):
    def test_9_meet_and_join(self):
        for n in range(1, 5):
            for p, r in product(partings(n), repeat=2):
                for lot in lots(n):
                    self.assertEqual(trace(meet(p, r), lot), meet(trace(p, lot), trace(r, lot)))
                    self.assertTrue(finer(join(trace(p, lot), trace(r, lot)), trace(join(p, r), lot)))

    def test_9_trace_of_a_trace(self):
        for n in range(1, 6):
            for p in partings(n):
                for lot in lots(n):
                    for inner in lots(len(lot)):
                        smaller = [lot[name] for name in inner]
                        self.assertEqual(trace(trace(p, lot), inner), trace(p, smaller))

    def test_10_one_name_left_out(self):
        for n in range(2, 6):
            for p, r in product(partings(n), repeat=2):
                for z in range(n):
                    lot = [name for name in range(n) if name != z]
                    joined = join(trace(p, lot), trace(r, lot))
                    left, right = others(p, z), others(r, z)
                    places = [lot.index(name) for name in left + right]
                    gathered = all(together(joined, places[0], place) for place in places)
                    expected = not left or not right or gathered
                    self.assertEqual(trace(join(p, r), lot) == joined, expected)


class SeenAndLifted(Case):
    def test_13_one_tells_the_other(self):
        for n in range(1, 6):
            for p in partings(n):
                for r in partings(n):
                    if finer(p, r):
                        self.assertEqual(lifted(p, seen_from(p, r)), r)
                for x in partings(count_of(p)):
                    self.assertEqual(seen_from(p, lifted(p, x)), x)
                    self.assertEqual(count_of(lifted(p, x)), count_of(x))

    def test_13_join_meet_finer_mu(self):
        for n in range(1, 5):
            for p in partings(n):
                above = [r for r in partings(n) if finer(p, r)]
                for r, t in product(above, repeat=2):
                    seen_r, seen_t = seen_from(p, r), seen_from(p, t)
                    self.assertEqual(seen_from(p, join(r, t)), join(seen_r, seen_t))
                    self.assertEqual(seen_from(p, meet(r, t)), meet(seen_r, seen_t))
                    self.assertEqual(finer(r, t), finer(seen_r, seen_t))
                    if finer(r, t):
                        self.assertEqual(mu(r, t), mu(seen_r, seen_t))

    def test_4_each_is_seen_from_exactly_one(self):
        for p in partings(5):
            lifts = [lifted(p, x) for x in partings(count_of(p))]
            self.assertEqual(len(set(lifts)), len(lifts))
            self.assertEqual(sorted(lifts), [r for r in partings(5) if finer(p, r)])


class JoinsOfLists(Case):
    def test_join_all_is_the_join_in_turn(self):
        for p, r, t in product(partings(4), repeat=3):
            self.assertEqual(join_all(p, r, t), join(join(p, r), t))
