"""[16], [17], exit(p, t) of [19], [26] and worlds.py: rates, moves, rows, exits, sums, what is reached."""

from itertools import product

from mergerates.errors import BadNumber, BadParting, BadTable, NotFiner, OtherSize
from mergerates.partings import partings, seen_from, singles, whole
from mergerates.worlds import World, reached
from tests import plain
from tests.case import NO_INTEGERS, NO_PARTINGS, Case

S = (0, 1, 2)
T = (0, 0, 1)
W = (0, 0, 0)
EXAMPLE = [(S, T, 2), (S, W, 1), (T, W, 4)]
NO_COUNTS = (*NO_INTEGERS, -1)


class Below(World):
    KIND = "below"


def some_worlds():
    for n in range(1, 5):
        for step, base in ((3, 5), (1, 2), (2, 7)):
            moves = plain.some_moves(n, step, base)
            yield n, moves, World(n, moves)


class Making(Case):
    def test_16_moves_in_order_each_once(self):
        w = World(3, [[T, W, 4], [[0, 1, 2], [0, 0, 1], 1], (S, W, 1), (S, T, 0), (S, T, 1), (S, (0, 1, 1), 0)])
        self.same(w.moves, ((T, W, 4), (S, W, 1), (S, T, 2)))
        self.same(w.size, 3)
        self.same(w.many, 3)
        self.same(list(w), list(w.moves))

    def test_no_moves(self):
        for n in range(1, 7):
            for w in (World(n), World(n, ()), World(n, []), World(size=n, moves=[])):
                self.same((w.size, w.moves, w.many, list(w)), (n, (), 0, []))

    def test_times(self):
        w = World(3, EXAMPLE, times=3)
        self.same(w.moves, ((T, W, 12), (S, W, 3), (S, T, 6)))
        self.same(World(3, EXAMPLE, times=0).moves, ())
        self.assertRaises(TypeError, World, 3, EXAMPLE, 2)

    def test_the_world_copies_what_it_is_given(self):
        p = [0, 1, 2]
        moves = [[p, [0, 0, 1], 2]]
        w = World(3, moves)
        p[2] = 0
        moves[0][2] = 9
        moves.append((S, W, 1))
        self.same(w.moves, ((S, T, 2),))
        self.same(w(S, T), 2)

    def test_arguments_do_not_change(self):
        moves = [[[0, 1, 2], [0, 0, 1], 2], [[0, 0, 1], [0, 0, 0], 0]]
        World(3, moves, times=2)
        self.same(moves, [[[0, 1, 2], [0, 0, 1], 2], [[0, 0, 1], [0, 0, 0], 0]])

    def test_six_names_and_great_rates(self):
        moves = [(p, r, 10 ** 14) for p, r in plain.comparable(6) if p != r]
        w = World(6, moves)
        self.assertEqual(w.many, 2268)
        self.assertEqual(w.moves, tuple(sorted(moves)))
        self.assertEqual(World(6, w.moves, times=7), w * 7)
        self.assertEqual(w.total_from(singles(6)), 202 * 10 ** 14)
        self.assertEqual(World(6, [(singles(6), whole(6), 10 ** 14)] * 2500).moves,
                         ((singles(6), whole(6), 2500 * 10 ** 14),))

    def test_kind(self):
        self.same(World.KIND, "world")
        self.same(World(1).KIND, "world")


class Refusing(Case):
    def test_numbers_first(self):
        for wrong in (*NO_INTEGERS, 0, -1, 7):
            self.refuses(BadNumber, "size", World, wrong, None, times=None)
        for wrong in NO_COUNTS:
            self.refuses(BadNumber, "times", World, 3, None, times=wrong)

    def test_moves(self):
        for wrong in (None, 3, "abc", {}, iter(()), World(3)):
            self.refuses(BadTable, -1, World, 3, wrong)

    def test_one_move(self):
        for wrong in (None, 3, "abc", (), (S, T), (S, T, 1, 1), {0: S, 1: T, 2: 1}):
            self.refuses(BadTable, 1, World, 3, [EXAMPLE[0], wrong, None])
        for wrong in NO_COUNTS:
            self.refuses(BadTable, 1, World, 3, [EXAMPLE[0], ((5,), None, wrong)])
            self.refuses(BadTable, 0, World, 3, [(S, T, wrong)])

    def test_partings_of_a_move(self):
        for wrong, _ in NO_PARTINGS:
            self.refuses(BadParting, 1, World, 3, [EXAMPLE[0], (wrong, wrong, 1)])
            self.refuses(BadParting, 2, World, 3, [*EXAMPLE[:2], ((0, 1), wrong, 0)])

    def test_sizes_of_a_move(self):
        self.refuses(OtherSize, 2, World, 3, [((0, 1), (0, 0, 0, 0), 1)])
        self.refuses(OtherSize, 4, World, 3, [(W, (0, 0, 0, 0), 1)])
        self.refuses(OtherSize, 2, World, 3, [((0, 1), W, 1)])

    def test_order_of_the_two(self):
        for p, r in product(partings(3), repeat=2):
            for rate in (0, 1):
                if p == r or not plain.is_finer(p, r):
                    self.refuses(NotFiner, 1, World, 3, [EXAMPLE[0], (p, r, rate)])
                    self.refuses(NotFiner, 0, World, 3, [(list(p), r, rate)])
                else:
                    World(3, [(p, list(r), rate)])

    def test_moves_are_looked_at_in_turn(self):
        self.refuses(NotFiner, 0, World, 3, [(W, W, 1), ((1,), W, 1), None])
        self.refuses(OtherSize, 2, World, 3, [((0, 1), W, 1), None])
        self.refuses(BadParting, 0, World, 3, [((1,), W, 1), None])

    def test_partings_passed_with_a_world(self):
        w = World(3, EXAMPLE)
        for call in (w.total_from, w.from_here, w.is_end, w.row_at, lambda p: reached(w, p)):
            for wrong, place in NO_PARTINGS:
                if wrong is not None:
                    self.refuses(BadParting, place, call, wrong)
            self.refuses(OtherSize, 2, call, (0, 1))
            self.refuses(OtherSize, 4, call, (0, 1, 2, 3))
        self.refuses(BadParting, -1, w.total_from, None)

    def test_two_partings_passed_with_a_world(self):
        w = World(3, EXAMPLE)
        for call in (w, w.exit_from):
            for wrong, place in NO_PARTINGS:
                self.refuses(BadParting, place, call, wrong, (1,))
                self.refuses(BadParting, place, call, (0, 1), wrong)
            self.refuses(OtherSize, 2, call, (0, 1), (0, 1, 2, 3))
            self.refuses(OtherSize, 4, call, W, (0, 1, 2, 3))

    def test_exit_from_refuses(self):
        w = World(3, EXAMPLE)
        for p, t in product(partings(3), repeat=2):
            if not plain.is_finer(p, t):
                self.refuses(NotFiner, -1, w.exit_from, p, t)
        self.refuses(OtherSize, 2, w.exit_from, W, (0, 1))


class Asking(Case):
    def test_16_rates(self):
        for n, moves, w in some_worlds():
            for p, r in product(partings(n), repeat=2):
                self.same(w(p, r), plain.rate_of(moves, p, r))
                self.same(w(list(p), r=list(r)), plain.rate_of(moves, p, r))

    def test_16_totals_and_ends(self):
        for n, moves, w in some_worlds():
            for p in partings(n):
                expected = sum(rate for x, _, rate in moves if x == p)
                self.same(w.total_from(p), expected)
                self.same(w.is_end(list(p)), expected == 0)
            self.same(w.is_end(whole(n)), True)

    def test_16_from_here(self):
        for n, moves, w in some_worlds():
            for p in partings(n):
                expected = sorted((r, rate) for x, r, rate in moves if x == p and rate > 0)
                self.same(w.from_here(p), expected)
                self.same(w.from_here(list(p)), expected)

    def test_each_list_is_new(self):
        w = World(3, EXAMPLE)
        w.from_here(S).append("x")
        reached(w).clear()
        self.same(w.from_here(S), [(W, 1), (T, 2)])
        self.same(w.from_here((0, 1, 1)), [])
        w.from_here((0, 1, 1)).append("x")
        self.same(w.from_here((0, 1, 1)), [])
        self.same(reached(w), [W, T, S])
        self.same(w.moves, ((T, W, 4), (S, W, 1), (S, T, 2)))

    def test_17_first_rates(self):
        for n, moves, w in some_worlds():
            expected = tuple(plain.rate_of(moves, singles(n), r) for r in partings(n))
            self.same(w.first_rates(), expected)
            self.same(w.row_at(singles(n)), expected)
        self.same(World(1).first_rates(), (0,))

    def test_17_rows(self):
        for n, moves, w in some_worlds():
            for p in partings(n):
                expected = {x: 0 for x in partings(len(set(p)))}
                for r in partings(n):
                    if plain.is_finer(p, r) and p != r:
                        expected[seen_from(p, r)] = plain.rate_of(moves, p, r)
                self.same(w.row_at(p), tuple(expected[x] for x in sorted(expected)))
                self.same(w.row_at(p)[-1], 0)
            self.same(w.row_at(whole(n)), (0,))

    def test_19_exits(self):
        for n, moves, w in some_worlds():
            for p, t in plain.comparable(n):
                expected = sum(rate for x, r, rate in moves if x == p and not plain.is_finer(r, t))
                self.same(w.exit_from(p, t), expected)
                self.same(w.exit_from(list(p), list(t)), expected)
            for p in partings(n):
                self.same(w.exit_from(p, p), w.total_from(p))
                self.same(w.exit_from(p, whole(n)), 0)

    def test_16_reached(self):
        for n, moves, w in some_worlds():
            for p in partings(n):
                found = {p}
                while True:
                    more = found | {r for x, r, rate in moves if x in found and rate > 0}
                    if more == found:
                        break
                    found = more
                self.same(reached(w, p), sorted(found))
                self.same(reached(world=w, start=list(p)), sorted(found))
            self.same(reached(w), reached(w, singles(n)))
            self.same(reached(w, None), reached(w, singles(n)))
        self.same(reached(World(1)), [(0,)])
        self.same(reached(World(6)), [singles(6)])


class Adding(Case):
    def test_26_sums(self):
        for n in range(1, 5):
            w = World(n, plain.some_moves(n, 3, 5))
            v = World(n, plain.some_moves(n, 2, 7))
            both = w + v
            self.same(both.size, n)
            for p, r in product(partings(n), repeat=2):
                self.assertEqual(both(p, r), w(p, r) + v(p, r))
            for p in partings(n):
                self.assertEqual(both.total_from(p), w.total_from(p) + v.total_from(p))
                self.assertEqual(both.row_at(p), tuple(a + b for a, b in zip(w.row_at(p), v.row_at(p))))
            for p, t in plain.comparable(n):
                self.assertEqual(both.exit_from(p, t), w.exit_from(p, t) + v.exit_from(p, t))
            self.assertEqual(both, v + w)

    def test_sums_change_nothing(self):
        w, v = World(3, EXAMPLE), World(3, [(S, T, 1)])
        w + v
        w * 3
        self.same((w.moves, v.moves), (((T, W, 4), (S, W, 1), (S, T, 2)), ((S, T, 1),)))

    def test_sum_refuses(self):
        self.refuses(OtherSize, 2, lambda: World(3) + World(2))
        self.refuses(OtherSize, 3, lambda: World(2) + Below(3))
        self.assertRaises(TypeError, lambda: World(2) + 1)

    def test_times(self):
        for n, moves, w in some_worlds():
            for k in (0, 1, 4, 10 ** 14):
                self.same((w * k).moves, tuple((p, r, rate * k) for p, r, rate in w if k > 0))
                self.assertEqual(w * k, World(n, moves, times=k))

    def test_times_refuses(self):
        for wrong in (*NO_COUNTS, World(3)):
            self.refuses(BadNumber, "k", lambda: World(3, EXAMPLE) * wrong)

    def test_kinds_of_results(self):
        low = Below(3, EXAMPLE)
        self.same(low.KIND, "below")
        for w in (low + low, low + World(3), World(3) + low, low * 2):
            self.assertIs(type(w), World)
            self.same(w.KIND, "world")

    def test_equal(self):
        self.same(World(3, EXAMPLE) == World(3, EXAMPLE[::-1]), True)
        self.same(World(3, EXAMPLE) == Below(3, EXAMPLE), True)
        self.same(Below(3, EXAMPLE) == World(3, EXAMPLE), True)
        self.same(World(3, EXAMPLE) == World(3, EXAMPLE[:2]), False)
        self.same(World(3, EXAMPLE) == World(3, EXAMPLE, times=2), False)
        self.same(World(3, EXAMPLE) != World(3, EXAMPLE, times=2), True)
        self.same(World(3) == World(2), False)
        self.same(World(2, [((0, 1), (0, 0), 0)]) == World(2), True)
        for other in (None, 3, World(3, EXAMPLE).moves, "world"):
            self.same(World(3, EXAMPLE) == other, False)
