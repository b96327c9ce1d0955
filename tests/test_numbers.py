"""[138] to [141] and numbers.py: the number of blocks alone, and forests and rings of pairs."""

from fractions import Fraction
from itertools import combinations, permutations

from mergerates.again import may_leave
from mergerates.chances import one_time
from mergerates.errors import BadParting, NotOneLot, OtherSize
from mergerates.fair import is_fair
from mergerates.joins import Joins
from mergerates.means import question_time
from mergerates.numbers import number_memoryless, number_pair, number_rates, number_stays, pairs_kind
from mergerates.partings import lot_parting, partings
from mergerates.rows import Counts
from mergerates.serving import servers
from mergerates.together import closed_chance, independent
from mergerates.worlds import World, reached
from tests import manyjoins, plain
from tests.case import NO_PARTINGS, Case
from tests.test_fair import fair_worlds
from tests.test_firsts import some_worlds

MOMENTS = ((1, 2), (1, 50), (99, 100))
# Pairs of up to six names: forests, rings with and without names beside them, and others.
FORESTS = (
    (2, ((0, 1),)), (3, ((0, 1),)), (3, ((0, 1), (1, 2))), (4, ((0, 1), (2, 3))), (4, ((0, 1), (1, 2), (2, 3))),
    (4, ((0, 3), (1, 3), (2, 3))), (5, ((0, 4), (1, 4), (2, 4), (3, 4))), (5, ((4, 2), (2, 0), (1, 3))),
    (6, ((0, 1), (1, 2), (2, 3), (3, 4), (4, 5))), (6, ((0, 5), (1, 5), (2, 4))),
)
RINGS = (
    (3, ((0, 1), (1, 2), (0, 2))), (4, ((0, 1), (1, 2), (2, 3), (0, 3))), (4, ((1, 2), (2, 3), (1, 3))),
    (4, ((0, 2), (2, 1), (1, 3), (3, 0))), (5, ((0, 1), (1, 2), (2, 3), (3, 4), (4, 0))), (5, ((0, 2), (2, 4), (0, 4))),
    (6, ((0, 3), (3, 1), (1, 4), (4, 2), (2, 5), (5, 0))),
)
OTHERS = (
    (4, ((0, 1), (1, 2), (0, 2), (2, 3))), (4, ((0, 1), (0, 2), (0, 3), (1, 2), (1, 3))),
    (5, ((0, 1), (1, 2), (0, 2), (3, 4))), (6, ((0, 1), (1, 2), (0, 2), (3, 4), (4, 5), (3, 5))),
    (4, tuple(combinations(range(4), 2))), (5, ((0, 1), (1, 2), (2, 0), (2, 3), (3, 4), (4, 2))),
    (6, ((0, 1), (1, 2), (2, 3), (3, 0), (0, 2), (4, 5))), (6, ((0, 1), (1, 2), (2, 3), (3, 0), (0, 4), (4, 2))),
)


def of_pairs(n, pairs, weight=1):
    return Joins.of_pairs(n, [(a, b, weight) for a, b in pairs])


def kinds():
    """Tuples (n, pairs, weight g, kind, join world)."""
    for kind, lists in (("forest", FORESTS), ("ring", RINGS), ("other", OTHERS)):
        for n, pairs in lists:
            for weight in (1, 3):
                yield n, pairs, weight, kind, of_pairs(n, pairs, weight)


def kind_told(n, weights):
    """The words of [139]."""
    pairs = [next(pair for pair in combinations(range(n), 2) if x[pair[0]] == x[pair[1]])
             for x in manyjoins.strokes_of(weights)]
    if not pairs:
        return "none"
    if len({weight for weight in weights.values() if weight > 0}) > 1:
        return "other"
    if not any(ring_in(n, chosen) for size in range(3, n + 1) for chosen in combinations(pairs, size)):
        return "forest"
    return "ring" if ring_in(n, pairs) else "other"


def ring_in(n, pairs):
    """True if the pairs are those of the neighbours in one circle of three or more names."""
    wanted = {frozenset(pair) for pair in pairs}
    for circle in permutations(range(n), len(pairs)):
        if {frozenset(step) for step in zip(circle, circle[1:] + circle[:1])} == wanted:
            return True
    return False


def blocks(p):
    return len(set(p))


def rates_to_numbers(n, rates, p):
    return tuple(sum(rate for (x, r), rate in rates.items() if x == p and blocks(r) == k) for k in range(1, blocks(p)))


class WithoutMemory(Case):
    def test_138_rates(self):
        for n, rates, w in some_worlds():
            for p in partings(n):
                found = number_rates(w, p)
                self.same(found, rates_to_numbers(n, rates, p))
                self.same(number_rates(world=w, p=list(p)), found)
                self.assertEqual(sum(found), w.total_from(p))
        self.same([number_rates(World(1), (0,)), number_rates(World(3), (0, 1, 2))], [(), (0, 0)])

    def test_138_without_memory(self):
        answers = []
        for n, rates, w in some_worlds():
            pairs = [(p, r) for p, r in combinations(reached(w), 2)
                     if blocks(p) == blocks(r) and number_rates(w, p) != number_rates(w, r)]
            expected = min(pairs, default=None)
            self.same(number_pair(w), expected)
            self.same(number_pair(world=w), expected)
            self.same(number_memoryless(w), expected is None)
            self.same(number_memoryless(world=w), expected is None)
            answers.append((n, expected is None))
        self.assertLessEqual({(1, True), (2, True), (3, True), (3, False), (4, True), (4, False)}, set(answers))

    def test_138_only_reached_partings_count(self):
        w = World(3, [((0, 1, 2), (0, 0, 1), 1), ((0, 1, 0), (0, 0, 0), 5)])
        self.same([number_memoryless(w), number_pair(w)], [True, None])
        v = w + World(3, [((0, 1, 2), (0, 1, 0), 1), ((0, 1, 2), (0, 1, 1), 1)])
        self.same([number_memoryless(v), number_pair(v)], [False, ((0, 0, 1), (0, 1, 0))])

    def test_138_fair_worlds(self):
        asked = 0
        for n, rates, w in fair_worlds((2, 3, 4, 5)):
            if is_fair(w, n - 1):
                self.same(number_memoryless(w), True)
                asked += 1
        self.assertGreater(asked, 40)
        self.same(number_memoryless(Counts(6, [1, 2, 3, 4, 5, 6, 7, 8, 9, 10])), True)

    def test_number_stays(self):
        answers = []
        for n, rates, w in some_worlds():
            time = plain.times_spent(rates, plain.partings_of(n), partings(n)[-1])
            expected = []
            for k in range(1, n + 1):
                held = [time[p] for p in time if blocks(p) == k]
                expected.append(None if None in held else plain.told(sum(held, Fraction(0))))
            self.same(number_stays(w), tuple(expected))
            self.same(number_stays(world=w), tuple(expected))
            answers.extend(expected)
        self.assertLessEqual({None, (0, 1)}, set(answers))
        self.same([number_stays(World(1)), number_stays(World(2))], [(None,), ((0, 1), None)])

    def test_refused(self):
        for wrong, place in NO_PARTINGS:
            self.refuses(BadParting, place, number_rates, World(3), wrong)
        self.refuses(OtherSize, 4, number_rates, World(3), (0, 1, 2, 3))


class Kinds(Case):
    def test_139_kinds(self):
        answers = []
        for n, pairs, weight, kind, j in kinds():
            self.same(pairs_kind(j), kind)
            self.same(pairs_kind(j=j), kind)
            if len(pairs) > 1:
                uneven = [(a, b, 1 + int(place == 0)) for place, (a, b) in enumerate(pairs)]
                self.same(pairs_kind(Joins.of_pairs(n, uneven)), "other")
            answers.append(kind)
        for n in (1, 2, 3, 4):
            for weights in manyjoins.pair_tables(n):
                told = kind_told(n, manyjoins.as_dict(n, weights))
                self.same(pairs_kind(Joins(n, weights)), told)
        self.assertEqual(set(answers), {"forest", "ring", "other"})

    def test_139_no_stroke_and_one_pair(self):
        for n in range(1, 7):
            self.same(pairs_kind(Joins.of_pairs(n, [])), "none")
        self.same([pairs_kind(of_pairs(2, [(0, 1)])), pairs_kind(of_pairs(6, [(4, 5)]))], ["forest", "forest"])

    def test_139_all_lists_of_pairs(self):
        every = list(combinations(range(4), 2))
        for size in range(len(every) + 1):
            for pairs in combinations(every, size):
                j = of_pairs(4, pairs)
                self.same(pairs_kind(j), kind_told(4, manyjoins.as_dict(4, j.weights)))

    def test_139_without_memory(self):
        for n, pairs, weight, kind, j in kinds():
            self.assertEqual(number_memoryless(j), kind != "other")
        for n in (2, 3, 4):
            for weights in manyjoins.pair_tables(n):
                j = Joins(n, weights)
                self.assertEqual(number_memoryless(j), pairs_kind(j) != "other")

    def test_139_rates(self):
        for n, pairs, weight, kind, j in kinds():
            if kind != "other":
                last = blocks(j.top)
                for p in reached(j):
                    if blocks(p) > last:
                        many_left = blocks(p) - last + (kind == "ring")
                        self.same(number_rates(j, p)[-1], many_left * weight)
                        self.assertEqual(sum(number_rates(j, p)[:-1]), 0)

    def test_139_the_last_totals_tell_it(self):
        asked = []
        for n, w in [*[(n, j) for n, _, _, _, j in kinds()],
                     *[(n, Joins(n, weights)) for n in (2, 3, 4) for weights in manyjoins.pair_tables(n)]]:
            last = blocks(w.top)
            totals = [{w.total_from(p) for p in reached(w) if blocks(p) == last + more} for more in (1, 2)]
            if all(len(told) <= 1 for told in totals):
                self.same(number_memoryless(w), True)
            asked.append(all(len(told) <= 1 for told in totals))
        self.assertEqual(set(asked), {True, False})

    def test_135_names_left_out(self):
        for n, pairs, weight, kind, j in kinds():
            if n < 6:
                for z in range(n):
                    self.same(may_leave(j, z), sum(z in pair for pair in pairs) <= 1)

    def test_refused(self):
        for lots, stroke in (([((0, 1, 2), 1)], (0, 0, 0, 1)), ([((0, 1), 1), ((0, 1, 2, 3), 2)], (0, 0, 0, 0))):
            self.refuses(NotOneLot, stroke, pairs_kind, Joins.of_lots(4, lots))
        two = [int(p in ((0, 0, 1, 1), (0, 1, 0, 1))) for p in partings(4)]
        self.refuses(NotOneLot, (0, 0, 1, 1), pairs_kind, Joins(4, two))
        self.refuses(NotOneLot, (0, 0, 0), pairs_kind, Joins(3, (1, 1, 1, 1, 0)))


def apart(n, pairs, a, b):
    """The pairs of the way from a to b, None if there is none; of a forest there is only one."""
    ways = [((a,), ())]
    for way, steps in ways:
        if way[-1] == b:
            return steps
        for pair in pairs:
            if way[-1] in pair:
                other = pair[0] + pair[1] - way[-1]
                if other not in way:
                    ways.append(((*way, other), (*steps, frozenset(pair))))
    return None


class Forests(Case):
    def test_140_forests_at_u(self):
        for n, pairs, g, kind, j in kinds():
            if kind == "forest":
                for u in MOMENTS:
                    v = Fraction(*u) ** g
                    self.same(one_time(j, u).at(j.top), plain.told((1 - v) ** len(pairs)))
                    for a, b in list(combinations(range(n), 2))[::1 if n < 5 else 4]:
                        way = apart(n, pairs, a, b)
                        expected = Fraction(0) if way is None else (1 - v) ** len(way)
                        self.same(closed_chance(j, lot_parting((a, b), n), u), plain.told(expected))

    def test_140_times_in_forests(self):
        for n, pairs, g, kind, j in kinds():
            if kind == "forest":
                e = len(pairs)
                time = number_stays(j)
                for i in range(e):
                    self.same(time[n - i - 1], plain.told(Fraction(1, (e - i) * g)))
                self.same(time[n - e - 1], None)
                self.same(time[:n - e - 1], ((0, 1),) * (n - e - 1))
                for a, b in combinations(range(n), 2):
                    way = apart(n, pairs, a, b)
                    expected = None if way is None else sum(Fraction(1, i + 1) for i in range(len(way))) / g
                    self.same(question_time(j, lot_parting((a, b), n)), plain.told(expected))

    def test_140_rings(self):
        for n, pairs, g, kind, j in kinds():
            if kind == "ring":
                m = len(pairs)
                for u in MOMENTS:
                    v = Fraction(*u) ** g
                    self.same(one_time(j, u).at(j.top), plain.told((1 - v) ** m + m * v * (1 - v) ** (m - 1)))
                time = number_stays(j)
                for k in range(2, m + 1):
                    self.same(time[blocks(j.top) + k - 2], plain.told(Fraction(1, k * g)))
                self.same(time[blocks(j.top) - 1], None)

    def test_141_independent_questions(self):
        answers = []
        for n, pairs, g, kind, j in kinds():
            names = sorted({name for pair in pairs for name in pair})
            if kind == "other" or g > 1 or len(names) < 3 or len({j.top[name] for name in names}) > 1:
                continue
            for (a, b), (c, d) in list(combinations(combinations(names, 2), 2))[::1 if n < 6 else 5]:
                found = independent(j, lot_parting((a, b), n), lot_parting((c, d), n))
                if kind == "forest":
                    ways = [set(apart(n, pairs, *ends)) for ends in ((a, b), (c, d))]
                    self.same(found, not ways[0] & ways[1])
                else:
                    self.same(found, False)
                answers.append((kind, found))
        self.assertEqual(set(answers), {("forest", True), ("forest", False), ("ring", False)})

    def test_98_servers_are_the_pairs_of_ways(self):
        for n, pairs, g, kind, j in kinds():
            if kind == "other" or g > 1:
                continue
            for a, b in list(combinations(range(n), 2))[::1 if n < 6 else 4]:
                way = apart(n, pairs, a, b)
                # In a ring two ways lead from name to name, and together they go along all pairs.
                expected = [] if way is None else way if kind == "forest" else pairs
                strokes = sorted(lot_parting(tuple(pair), n) for pair in expected)
                self.same(servers(j, lot_parting((a, b), n)), strokes)
