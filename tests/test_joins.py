"""[46], [48], [49] and joins.py: weights, strokes, breaking rates, top, what is reached, worlds seen and below."""

from mergerates.errors import BadLot, BadNumber, BadParting, BadTable, NotJoins, OtherSize
from mergerates.joins import Joins, joins_of
from mergerates.partings import partings, seen_from, singles, whole
from mergerates.steady import steady_partings
from mergerates.worlds import World, reached
from tests import many, manyjoins, plain
from tests.case import NO_INTEGERS, NO_PARTINGS, Case

NO_COUNTS = (*NO_INTEGERS, -1)
PATH = Joins.of_pairs(3, [(0, 1, 1), (1, 2, 1)])


def plain_rates(n, weights):
    return plain.rates_told(many.join_moves(n, weights))


class Making(Case):
    def test_46_rates(self):
        for n, weights, j in manyjoins.all_joins():
            rates = plain_rates(n, weights)
            self.assertEqual({(p, r): rate for p, r, rate in j}, rates)
            self.same(j.moves, tuple((p, r, rates[p, r]) for p, r in sorted(rates)))
            self.same(j.size, n)
            self.same(j.many, len(rates))
            self.same(j.weights, tuple(weights.values()))
            for p in partings(n):
                for r in partings(n):
                    self.same(j(p, r), rates.get((p, r), 0))

    def test_it_is_a_world(self):
        self.assertTrue(issubclass(Joins, World))
        for n, weights, j in manyjoins.all_joins():
            w = World(n, many.join_moves(n, weights))
            self.same((j == w, w == j, j != w), (True, True, False))
            self.same(j.lines(), w.lines())
            self.same(list(j), list(w))

    def test_kind(self):
        self.same((Joins.KIND, PATH.KIND, World.KIND), ("joins", "joins", "world"))

    def test_times(self):
        for n, weights, j in manyjoins.all_joins():
            for k in (0, 1, 3):
                found = Joins(n, list(j.weights), times=k)
                self.same(found.weights, tuple(k * weight for weight in j.weights))
                self.assertEqual(found, j * k)
        self.assertRaises(TypeError, Joins, 2, (1, 0), 2)

    def test_sums_and_products_are_worlds(self):
        for n in manyjoins.SIZES:
            every = manyjoins.joins_on(n)
            for j, i in zip(every, [*every[2:], *every[:2]]):
                for w, weights in ((j + i, [a + b for a, b in zip(j.weights, i.weights)]),
                                   (j * 3, [3 * a for a in j.weights]), (j * 0, [0 for _ in j.weights])):
                    self.assertIs(type(w), World)
                    self.same(w.KIND, "world")
                    self.assertEqual(w, Joins(n, weights))
        for w in (World(2) + Joins(2, (1, 0)), Joins(2, (1, 0)) + World(2)):
            self.assertIs(type(w), World)
            self.same(w.moves, (((0, 1), (0, 0), 1),))
        self.refuses(OtherSize, 2, lambda: PATH + Joins(2, (1, 0)))
        self.refuses(BadNumber, "k", lambda: PATH * -1)

    def test_unequal(self):
        self.same(Joins(2, (1, 0)) == Joins(2, (2, 0)), False)
        self.same(Joins(1, (0,)) == Joins(2, (0, 0)), False)
        self.same(Joins(2, (1, 0)) == (1, 0), False)

    def test_it_copies_what_it_is_given(self):
        weights = [1, 0, 2, 0, 0]
        j = Joins(3, weights)
        weights[0] = 9
        self.same(j.weights, (1, 0, 2, 0, 0))
        j.strokes().append("x")
        self.same(j.strokes(), [((0, 0, 0), 1), ((0, 1, 0), 2)])

    def test_read_gives_a_world(self):
        found = Joins.read(PATH.lines())
        self.assertIs(type(found), World)
        self.assertEqual(found, PATH)
        self.same(Joins.line_of(PATH.moves[0]), "001 > 000 : 1")

    def test_refused(self):
        for wrong in (*NO_INTEGERS, 0, 7, -1):
            self.refuses(BadNumber, "size", Joins, wrong, None, times=None)
        for wrong in NO_COUNTS:
            self.refuses(BadNumber, "times", Joins, 2, None, times=wrong)
        for wrong in (None, 3, "ab", {}, iter((1, 0)), (), (0,), (1, 0, 0), PATH):
            self.refuses(BadTable, -1, Joins, 2, wrong)
        for wrong in NO_COUNTS:
            self.refuses(BadTable, 1, Joins, 3, (1, wrong, wrong, 0, 9))
            self.refuses(BadTable, 4, Joins, 3, (1, 0, 0, 0, wrong))
        self.refuses(BadTable, 4, Joins, 3, [1, 1, 1, 1, 1])
        self.refuses(BadTable, 0, Joins, 1, (1,))
        self.same(Joins(1, (0,)).moves, ())


class Lots(Case):
    def test_of_lots(self):
        j = Joins.of_lots(4, [([2, 0], 3), ((0, 1, 2, 3), 1), [(0, 2), 4], ((1, 3), 0)])
        expected = {x: 0 for x in partings(4)}
        expected[(0, 1, 0, 2)] = 7
        expected[(0, 0, 0, 0)] = 1
        self.same(j.weights, tuple(expected.values()))
        self.assertIs(type(j), Joins)
        for n in range(1, 7):
            for lot in plain.all_lots(n):
                if len(lot) > 1 and n < 5:
                    table = manyjoins.of_lots(n, [(lot, 5)])
                    self.same(Joins.of_lots(size=n, lots=((lot[::-1], 5),)).weights, table)
            self.assertEqual(Joins.of_lots(n, []), World(n))
            self.assertEqual(Joins.of_lots(n, ()), World(n))

    def test_of_pairs(self):
        j = Joins.of_pairs(4, [(2, 0, 3), [0, 1, 1], (0, 2, 4), (3, 1, 0)])
        self.same(j.strokes(), [((0, 0, 1, 2), 1), ((0, 1, 0, 2), 7)])
        self.assertIs(type(j), Joins)
        self.same(Joins.of_pairs(size=6, pairs=((5, 4, 2),)).strokes(), [((0, 1, 2, 3, 4, 4), 2)])
        for n in range(1, 7):
            self.assertEqual(Joins.of_pairs(n, ()), World(n))

    def test_entries_do_not_change(self):
        lots = [[[1, 0], 2]]
        Joins.of_lots(2, lots)
        self.same(lots, [[[1, 0], 2]])

    def test_lots_refused(self):
        good = ((0, 1), 1)
        for wrong in (*NO_INTEGERS, 0, 7):
            self.refuses(BadNumber, "size", Joins.of_lots, wrong, None)
        for wrong in (None, 4, "ab", {}, iter(())):
            self.refuses(BadTable, -1, Joins.of_lots, 3, wrong)
        for wrong in (None, 4, "ab", (), ((0, 1),), ((0, 1), 1, 1), {0: 0, 1: 1}):
            self.refuses(BadTable, 1, Joins.of_lots, 3, [good, wrong, None])
        for wrong in (None, 4, "01", {0: 1, 1: 1}, (0, 3), (0, -1), (1, 1), (True, 0), (0, 1.0), (0, 1, 2, 0)):
            self.refuses(BadLot, 1, Joins.of_lots, 3, [good, (wrong, None), None])
        for wrong in ((), [], (0,), [2]):
            self.refuses(BadTable, 1, Joins.of_lots, 3, [good, (wrong, 1), None])
        for wrong in NO_COUNTS:
            self.refuses(BadTable, 0, Joins.of_lots, 3, [((0, 1), wrong), ((5,), 1)])
        self.refuses(BadTable, 0, Joins.of_lots, 1, [((0,), 1)])
        self.refuses(BadLot, 0, Joins.of_lots, 1, [((0, 1), 1)])

    def test_pairs_refused(self):
        good = (0, 1, 1)
        for wrong in (*NO_INTEGERS, 0, 7):
            self.refuses(BadNumber, "size", Joins.of_pairs, wrong, None)
        for wrong in (None, 4, "ab", {}, iter(())):
            self.refuses(BadTable, -1, Joins.of_pairs, 3, wrong)
        for wrong in (None, 4, "abc", (), (0, 1), (0, 1, 1, 1), ((0, 1), 1)):
            self.refuses(BadTable, 1, Joins.of_pairs, 3, [good, wrong, None])
        for a, b in ((0, 0), (0, 3), (3, 0), (-1, 0), (None, 0), (0, "1"), (True, 0), (0, 1.0), ((0,), 1)):
            self.refuses(BadLot, 1, Joins.of_pairs, 3, [good, (a, b, None), None])
        for wrong in NO_COUNTS:
            self.refuses(BadTable, 0, Joins.of_pairs, 3, [(0, 1, wrong), (5, 5, 1)])


class Strokes(Case):
    def test_46_strokes(self):
        for n, weights, j in manyjoins.all_joins():
            self.same(j.strokes(), [(x, weights[x]) for x in partings(n) if weights[x] > 0])

    def test_46_breaking_rates(self):
        for n, weights, j in manyjoins.all_joins():
            for t in partings(n):
                self.same(j.breaking(t), manyjoins.breaking_of(weights, t))
                self.same(j.breaking(t=list(t)), j.breaking(t))

    def test_46_top(self):
        for n, weights, j in manyjoins.all_joins():
            self.same(j.top, manyjoins.top_of(n, weights))
        self.same(Joins(4, (0,) * 15).top, (0, 1, 2, 3))
        self.same(Joins(1, (0,)).top, (0,))

    def test_46_exits(self):
        for n, weights, j in manyjoins.all_joins():
            for p, t in plain.comparable(n):
                self.same(j.exit_from(p, t), j.breaking(t))
            self.same(steady_partings(j), partings(n))

    def test_48_reached(self):
        for n, weights, j in manyjoins.all_joins():
            found = {singles(n)}
            for x in manyjoins.strokes_of(weights):
                found |= {many.join_of(t, x) for t in found}
            self.same(reached(j), sorted(found))
            for p in partings(n):
                self.same(j.is_end(p), plain.is_finer(j.top, p))
            self.assertEqual([p for p in reached(j) if j.is_end(p)], [j.top])


class Made(Case):
    def test_49_seen_from_a_parting(self):
        for n, weights, j in manyjoins.all_joins():
            for p in partings(n):
                expected = {y: 0 for y in partings(len(set(p)))}
                for x, weight in weights.items():
                    y = seen_from(p, many.join_of(p, x))
                    if y != singles(len(y)):
                        expected[y] += weight
                found = j.seen_joins(p)
                self.assertIs(type(found), Joins)
                self.same(found.weights, tuple(expected.values()))
                self.assertEqual(j.seen_joins(p=list(p)), found)
            self.assertEqual(j.seen_joins(singles(n)), j)
            self.same(j.seen_joins(whole(n)).weights, (0,))

    def test_49_below_a_parting(self):
        for n, weights, j in manyjoins.all_joins():
            for t in partings(n):
                i = j.under(t)
                self.assertIs(type(i), Joins)
                below = plain.below(t)
                self.same(i.weights, tuple(weights[x] if x in below else 0 for x in partings(n)))
                self.assertEqual(j.under(t=list(t)), i)
                for p in below:
                    for r in below:
                        self.same(i(p, r), j(p, r))

    def test_without(self):
        for n, weights, j in manyjoins.all_joins():
            for x in partings(n):
                found = j.without(x)
                self.assertIs(type(found), Joins)
                self.same(found.weights, tuple(0 if y == x else weights[y] for y in partings(n)))
                self.assertEqual(j.without(x=list(x)), found)
            self.same(j.weights, tuple(weights.values()))

    def test_partings_refused(self):
        for call in (PATH.breaking, PATH.seen_joins, PATH.under, PATH.without):
            for wrong, place in NO_PARTINGS:
                self.refuses(BadParting, place, call, wrong)
            self.refuses(OtherSize, 2, call, (0, 1))
            self.refuses(OtherSize, 4, call, (0, 1, 2, 3))


class Back(Case):
    def test_joins_of(self):
        for n, weights, j in manyjoins.all_joins():
            found = joins_of(World(n, j.moves))
            self.assertIs(type(found), Joins)
            self.same(found.weights, j.weights)
            self.same(joins_of(world=j).weights, j.weights)

    def test_joins_of_other_worlds(self):
        for n, rates, w in many.all_worlds():
            weights = {r: rate for (p, r), rate in rates.items() if p == singles(n)}
            joined = plain_rates(n, weights)
            wrong = sorted(p for (p, r), rate in {*rates.items()} ^ {*joined.items()})
            if wrong:
                self.refuses(NotJoins, wrong[0], joins_of, w)
            else:
                self.same(joins_of(w).weights, w.first_rates())

    def test_the_least_parting_is_told(self):
        w = World(3, [((0, 1, 0), (0, 0, 0), 1), ((0, 1, 1), (0, 0, 0), 1)])
        self.refuses(NotJoins, (0, 1, 0), joins_of, w)
        self.refuses(NotJoins, (0, 0, 1), joins_of, World(3, [((0, 1, 2), (0, 1, 0), 2)]))


class Sizes(Case):
    def test_six_names(self):
        weights = [10 ** 14 - place * place for place in range(202)] + [0]
        j = Joins(6, weights)
        self.same((j.many, j.top, len(j.strokes())), (2268, whole(6), 202))
        self.same(j.breaking(singles(6)), sum(weights))
        self.same((j * 10 ** 14).total_from(singles(6)), sum(weights) * 10 ** 14)
        for t in ((0, 0, 0, 1, 1, 1), (0, 0, 1, 2, 1, 3), whole(6), singles(6)):
            self.same(j.total_from(t), j.breaking(t))
            self.same(j.seen_joins(t).weights, j.row_at(t))
            self.same(j.under(t).top, t)
        self.same(joins_of(World(6, j.moves)).weights, tuple(weights))
