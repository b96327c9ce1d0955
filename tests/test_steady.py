"""[31], [32], [33], [41] and steady.py: steady partings, steady to q, times below a parting."""

from fractions import Fraction

from mergerates.errors import BadParting, NotFiner, OtherSize
from mergerates.leaving import leaving_time
from mergerates.likejoins import first_joins
from mergerates.partings import count_of, partings, seen_from, singles, whole
from mergerates.runs import stays
from mergerates.seen import seen_world
from mergerates.steady import (
    breaking_table, finer_than, held_time, is_steady, steady_partings, steady_to, unsteady_pair,
)
from mergerates.worlds import World
from tests import many, plain
from tests.case import NO_PARTINGS, Case

S4 = (0, 1, 2, 3)
MOVES = [(S4, (0, 0, 1, 2), 2), (S4, (0, 1, 2, 2), 2), (S4, (0, 0, 0, 0), 2),
         ((0, 0, 1, 2), (0, 0, 1, 1), 1), ((0, 0, 1, 2), (0, 0, 0, 0), 3), ((0, 1, 2, 2), (0, 0, 1, 1), 3),
         ((0, 1, 2, 2), (0, 0, 0, 0), 1), ((0, 0, 1, 1), (0, 0, 0, 0), 2)]
EXAMPLE = World(4, MOVES)
PAIRS = (0, 0, 1, 1)


def plain_exits(rates, t):
    """For each p <= t, ascending, exit(p, t)."""
    family = plain.below(t)
    return {p: plain.exit_of(rates, p, family) for p in family}


def steady_few(n):
    """Worlds on n names with at least one steady parting between singles and whole."""
    return [w for w in many.worlds_on(n) if len(steady_partings(w)) > 2]


class Steady(Case):
    def test_finer_than(self):
        for n in range(1, 6):
            for t in partings(n):
                self.same(finer_than(t), plain.below(t))
                self.same(finer_than(t=list(t))[0], t)
        self.assertEqual(finer_than(whole(6)), partings(6))
        self.same(finer_than(singles(6)), [singles(6)])

    def test_31_is_steady(self):
        for n, rates, w in many.all_worlds():
            found = []
            for t in partings(n):
                found_exits = plain_exits(rates, t)
                steady = len(set(found_exits.values())) == 1
                self.same(is_steady(w, t), steady)
                self.same(is_steady(world=w, t=list(t)), steady)
                others = [p for p in found_exits if found_exits[p] != found_exits[t]]
                self.same(unsteady_pair(w, t), None if steady else (t, others[0]))
                if steady:
                    found.append(t)
            self.same(steady_partings(w), found)

    def test_31_whole_and_singles(self):
        for n, rates, w in many.all_worlds():
            self.same(is_steady(w, whole(n)), True)
            self.same(is_steady(w, singles(n)), True)

    def test_31_steady_to(self):
        for n, rates, w in many.all_worlds():
            steady = steady_partings(w)
            expected = max(q for q in range(1, n + 1) if all(t in steady for t in partings(n) if count_of(t) <= q))
            self.same(steady_to(w), expected)

    def test_31_the_worlds_that_are_asked_are_of_all_kinds(self):
        # What is steady to n - 1 is steady to n: no world is steady to just n - 1.
        for n in many.SIZES:
            self.assertEqual({steady_to(w) for w in many.worlds_on(n)}, {*range(1, n - 1), n})

    def test_32_steady_exactly_if_the_times_are_the_same(self):
        for n, rates, w in many.all_worlds():
            for t in partings(n):
                if not any(w.is_end(p) for p in plain.below(t)):
                    times = {held_time(w, t, p) for p in plain.below(t)}
                    self.assertEqual(is_steady(w, t), len(times) == 1)
                    if is_steady(w, t):
                        self.assertEqual(times, {plain.told(Fraction(1, w.exit_from(singles(n), t)))})

    def test_32_with_ends_below(self):
        # From singles the run may end below t; the exits of the two differ, and both times are None.
        w = World(4, [(S4, (0, 0, 1, 2), 1), (S4, (0, 1, 2, 0), 1)])
        self.same([held_time(w, PAIRS, p) for p in ((0, 0, 1, 1), (0, 0, 1, 2), (0, 1, 2, 2), S4)], [None] * 4)
        self.same(is_steady(w, PAIRS), False)
        self.same(unsteady_pair(w, PAIRS), (PAIRS, S4))

    def test_33_sums(self):
        for n in many.SIZES:
            worlds = steady_few(n) if n > 2 else many.worlds_on(n)
            for v, w in zip(worlds, worlds[1:]):
                both = v + w
                for t in partings(n):
                    if is_steady(v, t) and is_steady(w, t):
                        self.same(is_steady(both, t), True)
                        self.same(both.exit_from(t, t), v.exit_from(t, t) + w.exit_from(t, t))
                    elif is_steady(v, t) or is_steady(w, t):
                        self.same(is_steady(both, t), False)

    def test_33_times(self):
        for n, rates, w in many.all_worlds():
            self.assertEqual(steady_partings(w * 3), steady_partings(w))
            for t in partings(n):
                self.same((w * 3).exit_from(t, t), 3 * w.exit_from(t, t))

    def test_33_seen_from_a_parting(self):
        for n, rates, w in many.all_worlds():
            for p in partings(n):
                v = seen_world(w, p)
                for t in steady_partings(w):
                    if plain.is_finer(p, t):
                        self.same(is_steady(v, seen_from(p, t)), True)
                self.assertGreaterEqual(steady_to(v), min(steady_to(w), v.size))

    def test_41_not_told_by_runs_from_singles(self):
        joins = first_joins(EXAMPLE)
        self.same(stays(EXAMPLE), stays(joins))
        self.same(is_steady(EXAMPLE, PAIRS), False)
        self.same(is_steady(joins, PAIRS), True)
        self.same(steady_to(joins), 4)

    def test_six_names(self):
        moves = many.join_moves(6, {(0, 0, 1, 2, 3, 4): 10 ** 14, (0, 1, 1, 1, 2, 2): 3, (0, 1, 2, 3, 4, 0): 1})
        self.same(steady_to(World(6, moves)), 6)
        self.assertEqual(steady_partings(World(6, moves)), partings(6))
        w = World(6, [*moves, ((0, 0, 1, 2, 3, 3), whole(6), 1)])
        self.same(steady_to(w), 1)
        self.same(unsteady_pair(w, (0, 0, 1, 1, 1, 1)), ((0, 0, 1, 1, 1, 1), (0, 0, 1, 2, 3, 3)))


class Held(Case):
    def test_example(self):
        self.same([unsteady_pair(EXAMPLE, PAIRS), held_time(EXAMPLE, PAIRS, S4),
                   held_time(EXAMPLE, PAIRS, (0, 0, 1, 2)), held_time(EXAMPLE, PAIRS, PAIRS)],
                  [(PAIRS, (0, 0, 1, 2)), (1, 2), (3, 8), (1, 2)])

    def test_times_below(self):
        for n, rates, w in many.all_worlds():
            for p, t in plain.comparable(n):
                expected = plain.told(plain.time_until_outside(rates, plain.below(t), p))
                self.same(held_time(w, t, p), expected)
                self.same(held_time(world=w, t=list(t), start=list(p)), expected)
                self.same(leaving_time(w, finer_than(t), p), expected)

    def test_ends(self):
        for n, rates, w in many.all_worlds():
            for p in partings(n):
                if w.is_end(p):
                    self.same(held_time(w, p, p), None)
                    self.same(held_time(w, whole(n), p), None)


class Breaking(Case):
    def test_breaking_table(self):
        for n, rates, w in many.all_worlds():
            expected = tuple(plain.exit_of(rates, singles(n), plain.below(t)) for t in partings(n))
            self.same(breaking_table(world=w), expected)
        self.same(breaking_table(World(3, [((0, 1, 2), (0, 0, 1), 1), ((0, 0, 1), (0, 0, 0), 3)])), (0, 0, 1, 1, 1))
        self.same(breaking_table(World(1)), (0,))


class Refusals(Case):
    def test_finer_than(self):
        for wrong, place in NO_PARTINGS:
            self.refuses(BadParting, place, finer_than, wrong)

    def test_one_parting(self):
        for call in (is_steady, unsteady_pair):
            for wrong, place in NO_PARTINGS:
                self.refuses(BadParting, place, call, EXAMPLE, wrong)
            self.refuses(OtherSize, 2, call, EXAMPLE, (0, 1))
            self.refuses(OtherSize, 6, call, EXAMPLE, singles(6))

    def test_held_time(self):
        for wrong, place in NO_PARTINGS:
            self.refuses(BadParting, place, held_time, EXAMPLE, wrong, (1,))
            self.refuses(BadParting, place, held_time, EXAMPLE, (0, 1), wrong)
        self.refuses(OtherSize, 2, held_time, EXAMPLE, (0, 1), (0, 1, 2))
        self.refuses(OtherSize, 3, held_time, EXAMPLE, S4, (0, 1, 2))
        for p in partings(4):
            for t in partings(4):
                if not plain.is_finer(p, t):
                    self.refuses(NotFiner, -1, held_time, EXAMPLE, t, p)
