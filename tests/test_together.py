"""[93], [94], [96] to [99] and together.py: questions and lots taken together."""

from fractions import Fraction
from itertools import combinations, product

from mergerates.again import traced_chances
from mergerates.chances import one_time
from mergerates.errors import BadLot, BadNumber, BadParting, NotOneLot, OtherSize, TooMany
from mergerates.joins import Joins
from mergerates.means import question_time
from mergerates.nesting import nested
from mergerates.partings import blocks_of, join, partings
from mergerates.polynomials import open_poly
from mergerates.runs import stays
from mergerates.serving import both_served, servers
from mergerates.together import (
    both_closed, closed_chance, covariance, first_time, independent, lots_independent, parts_independent,
    product_time, sharing_stroke, together_chances, way_between,
)
from tests import manyjoins, plain
from tests.case import NO_AMOUNTS, NO_INTEGERS, NO_PARTINGS, Case
from tests.manyjoins import exact, table_dict
from tests.test_serving import some_questions, ways

NESTED = Joins.of_lots(4, [((0, 1), 1), ((0, 1, 2, 3), 1)])
PATH = Joins.of_pairs(3, [(0, 1, 1), (1, 2, 1)])
PATHS = Joins.of_pairs(4, [(0, 1, 2), (2, 3, 1)])
GREAT = Joins(3, (401, 0, 0, 0, 0))
NO_MOMENTS = (*NO_AMOUNTS, 0, -1, 2, (0, 1), (-1, 2), (3, 2))


def closed(at, r):
    """The chance that r is closed, for chances by partings."""
    return sum(chance for t, chance in at.items() if plain.is_finer(r, t))


def lots_apart(n, most=3):
    """All tuples of at most so many lots, none empty, without common names, in any order."""
    lots = plain.all_lots(n)[1:]
    found = []
    for count in range(1, most + 1):
        for chosen in product(lots, repeat=count):
            if sum(len(lot) for lot in chosen) == len({name for lot in chosen for name in lot}):
                found.append(chosen)
    return found


def serves_in(j, lot):
    """The strokes that serve a question of two names of the lot."""
    found = set()
    for a, b in combinations(sorted(lot), 2):
        found |= set(servers(j, manyjoins.lot_label(j.size, (a, b))))
    return found


class Questions(Case):
    def test_93_chances_of_being_closed(self):
        for n, weights, j in manyjoins.light_joins():
            for u in ((1, 2), (1, 50), (99, 100))[:1 if n > 3 else 3]:
                at = manyjoins.at_time(n, weights, u)
                for r in partings(n):
                    self.same(closed_chance(j, r, u), plain.told(closed(at, r)))
                    self.same(closed_chance(j=j, r=list(r), u=u), closed_chance(j, r, u))
                for r, s in some_questions(n, 10):
                    both = sum(f for t, f in at.items() if plain.is_finer(r, t) and plain.is_finer(s, t))
                    self.same(both_closed(j, r, s, u), plain.told(both))
                    self.same(both_closed(j=j, r=list(r), s=list(s), u=u), both_closed(j, r, s, u))
                    self.same(both_closed(j, r, s, u), closed_chance(j, join(r, s), u))
                    expected = plain.told(both - closed(at, r) * closed(at, s))
                    self.same(covariance(j, r, s, u), expected)
                    self.same(covariance(j=j, r=list(r), s=list(s), u=u), expected)

    def test_the_beginning(self):
        for n, weights, j in manyjoins.light_joins():
            for r in partings(n):
                expected = (1, 1) if r == partings(n)[-1] else (0, 1)
                self.same(closed_chance(j, r, 1), expected)
                self.same(both_closed(j, r, r, (1, 1)), expected)
                self.same(covariance(j, r, r, 1), (0, 1))

    def test_93_independent_questions(self):
        answers = []
        for n, weights, j in manyjoins.light_joins():
            for r, s in some_questions(n, 20):
                found = independent(j, r, s)
                self.same(found, both_served(j, r, s) == [])
                self.same(independent(j=j, r=list(r), s=list(s)), found)
                for u in ((1, 50), (99, 100)):
                    top, _ = covariance(j, r, s, u)
                    self.assertEqual((top > 0, top == 0), (not found, found))
                answers.append(found)
        self.assertEqual(set(answers), {True, False})

    def test_93_one_stroke_serves_both(self):
        asked = 0
        for n, weights, j in manyjoins.light_joins():
            for r, s in some_questions(n, 20):
                shared = both_served(j, r, s)
                if len(shared) == 1:
                    x = shared[0]
                    X = one_time(j.without(x), (2, 3))
                    f = Fraction(2, 3) ** weights[x]
                    more = [exact(X.joined_by(x).above(q)) - exact(X.above(q)) for q in (r, s)]
                    self.same(covariance(j, r, s, (2, 3)), plain.told(f * (1 - f) * more[0] * more[1]))
                    asked += 1
        self.assertGreater(asked, 50)

    def test_94_the_first_of_two(self):
        for n, weights, j in manyjoins.all_joins():
            time = table_dict(n, stays(j))
            for r, s in some_questions(n):
                still = [t for t in partings(n) if not plain.is_finer(r, t) and not plain.is_finer(s, t)]
                found = first_time(j, r, s)
                self.same(first_time(j=j, r=list(r), s=list(s)), found)
                if j.top in still:
                    self.same(found, None)
                else:
                    self.same(found, plain.told(sum((time[t] for t in still), Fraction(0))))

    def test_94_both_sums_of_times(self):
        for n, weights, j in manyjoins.all_joins():
            for r, s in some_questions(n):
                if plain.is_finer(r, j.top) and plain.is_finer(s, j.top):
                    left = exact(first_time(j, r, s)) + exact(question_time(j, join(r, s)))
                    self.assertEqual(left, exact(question_time(j, r)) + exact(question_time(j, s)))

    def test_94_the_product(self):
        answers = []
        for n, weights, j in manyjoins.all_joins():
            for r, s in some_questions(n, 20):
                found = product_time(j, r, s)
                self.same(found, (open_poly(j, r) * open_poly(j, s)).mean())
                self.same(product_time(j=j, r=list(r), s=list(s)), found)
                first = first_time(j, r, s)
                self.same(found is None, first is None)
                if found is not None:
                    self.assertGreaterEqual(exact(first), exact(found))
                    self.assertEqual(first == found, independent(j, r, s))
                answers.append((found is None, independent(j, r, s)))
        # Questions that top leaves open are served by no stroke.
        self.assertEqual(set(answers), {(True, True), (False, True), (False, False)})

    def test_99_nested_questions(self):
        for n, weights, j in manyjoins.all_joins((2, 3, 4)):
            if nested(j):
                for (a, b), (c, d) in product(combinations(range(n), 2), repeat=2):
                    r, s = manyjoins.lot_label(n, (a, b)), manyjoins.lot_label(n, (c, d))
                    expected = not any(x[a] == x[b] and x[c] == x[d] for x in manyjoins.strokes_of(weights))
                    self.same(independent(j, r, s), expected)

    def test_example(self):
        r, s = (0, 0, 1, 2), (0, 1, 2, 2)
        self.same([covariance(NESTED, r, s, (1, 2)), first_time(NESTED, r, s), product_time(NESTED, r, s)],
                  [(1, 8), (1, 2), (1, 3)])

    def test_refused(self):
        for wrong in NO_MOMENTS:
            self.refuses(BadNumber, "u", closed_chance, GREAT, None, wrong)
            self.refuses(BadNumber, "u", both_closed, GREAT, None, None, wrong)
            self.refuses(BadNumber, "u", covariance, GREAT, None, None, wrong)
        for wrong, place in NO_PARTINGS:
            self.refuses(BadParting, place, closed_chance, GREAT, wrong, 1)
            for call in (both_closed, covariance, lambda j, r, s, u: independent(j, r, s),
                         lambda j, r, s, u: first_time(j, r, s), lambda j, r, s, u: product_time(j, r, s)):
                self.refuses(BadParting, place, call, GREAT, wrong, (1,), (1, 2))
                self.refuses(BadParting, place, call, GREAT, (0, 1), wrong, (1, 2))
                self.refuses(OtherSize, 2, call, GREAT, (0, 1), (0,), (1, 2))
                self.refuses(OtherSize, 1, call, GREAT, (0, 1, 0), (0,), (1, 2))
        self.refuses(OtherSize, 2, closed_chance, GREAT, (0, 1), 1)
        for u in (1, (1, 2)):
            self.refuses(TooMany, 401, closed_chance, GREAT, (0, 1, 0), u)
            self.refuses(TooMany, 401, both_closed, GREAT, (0, 1, 0), (0, 1, 2), u)
            self.refuses(TooMany, 401, covariance, GREAT, (0, 1, 0), (0, 1, 2), u)


class Lots(Case):
    def test_96_sharing_strokes(self):
        answers = []
        for n, weights, j in manyjoins.all_joins():
            serving = {lot: serves_in(j, lot) for lot in plain.all_lots(n)[1:]}
            for lots in lots_apart(n)[::1 if n < 4 else 4]:
                found = [(x, i, k) for i, k in combinations(range(len(lots)), 2)
                         for x in serving[lots[i]] & serving[lots[k]]]
                expected = min(found, default=None)
                self.same(sharing_stroke(j, lots), expected)
                self.same(lots_independent(j, lots), expected is None)
                self.same(sharing_stroke(j=j, lots=[list(lot)[::-1] for lot in lots]), expected)
                self.same(lots_independent(j=j, lots=[list(lot)[::-1] for lot in lots]), expected is None)
                answers.append((len(lots), expected is None))
        self.assertLessEqual({(1, True), (2, True), (2, False), (3, True)}, set(answers))

    def test_96_two_least_places(self):
        # The stroke of all names serves each lot of two or more names.
        j = Joins(6, [1] + [0] * 202)
        self.same(sharing_stroke(j, [(0,), (5, 4), (3,), (1, 2)]), ((0, 0, 0, 0, 0, 0), 1, 3))
        self.same(sharing_stroke(j, [(0,), (5, 4), (3,), (1,)]), None)
        pairs = Joins.of_lots(6, [((2, 3, 4, 5), 1), ((0, 1, 4, 5), 1)])
        self.same(sharing_stroke(pairs, [(0, 1), (2, 3), (4, 5)]), ((0, 0, 1, 2, 0, 0), 0, 2))

    def test_96_chances_together(self):
        for n, weights, j in manyjoins.light_joins():
            for u in ((1, 2), (99, 100), 1)[:1 if n > 3 else 3]:
                at = manyjoins.at_time(n, weights, u if isinstance(u, tuple) else (u, 1))
                for lots in lots_apart(n, 2)[::1 if n < 4 else 5]:
                    expected = {}
                    for t, chance in at.items():
                        traces = tuple(plain.trace_on(t, lot) for lot in lots)
                        expected[traces] = expected.get(traces, 0) + chance
                    told = [(traces, plain.told(chance)) for traces, chance in sorted(expected.items()) if chance]
                    self.same(together_chances(j, lots, u), told)
                    self.same(together_chances(j=j, lots=[list(lot)[::-1] for lot in lots], u=u), told)

    def test_96_in_the_order_of_the_lots(self):
        found = together_chances(PATHS, [(2, 3), (1, 0)], (1, 2))
        self.same([traces for traces, _ in found], list(product([(0, 0), (0, 1)], repeat=2)))
        self.same(found[1], (((0, 0), (0, 1)), (1, 8)))

    def test_96_products(self):
        for n, weights, j in manyjoins.light_joins():
            for lots in lots_apart(n, 3)[::1 if n < 4 else 8]:
                for u in ((1, 2), (1, 50)):
                    found = dict(together_chances(j, lots, u))
                    alone = [dict(together_chances(j, [lot], u)) for lot in lots]
                    equal = True
                    for chosen in product(*[partings(len(lot)) for lot in lots]):
                        expected = Fraction(1)
                        for place, y in enumerate(chosen):
                            expected *= exact(alone[place].get((y,), (0, 1)))
                        equal = equal and exact(found.get(chosen, (0, 1))) == expected
                    self.same(lots_independent(j, lots), equal)

    def test_96_sums_for_one_lot(self):
        for n, weights, j in manyjoins.light_joins((2, 3)):
            for lots in lots_apart(n, 2):
                for place, lot in enumerate(lots):
                    sums = {y: Fraction(0) for y in partings(len(lot))}
                    for traces, chance in together_chances(j, lots, (2, 3)):
                        sums[traces[place]] += exact(chance)
                    self.same(traced_chances(j, lot, (2, 3)).table, tuple(plain.told(f) for f in sums.values()))

    def test_96_each_two(self):
        for n, weights, j in manyjoins.all_joins((3, 4)):
            for lots in lots_apart(n, 3)[::3]:
                each = all(lots_independent(j, [a, b]) for a, b in combinations(lots, 2))
                self.same(lots_independent(j, lots), each)

    def test_example(self):
        self.same(together_chances(NESTED, [(0, 1), (3, 2)], (1, 2)),
                  [(((0, 0), (0, 0)), (1, 2)), (((0, 0), (0, 1)), (1, 4)), (((0, 1), (0, 1)), (1, 4))])

    def test_refused(self):
        for call in (sharing_stroke, lots_independent, lambda j, lots: together_chances(j, lots, (1, 2))):
            for wrong in (None, 3, "01", {0: 0}, (), [], iter([(0,)])):
                self.refuses(BadLot, -1, call, GREAT, wrong)
            for wrong in (None, 3, "1", {1: 1}, (), [], (3,), (-1,), (1, 1), (True,), (1.0,), (1, None), (2, 0), (0,)):
                self.refuses(BadLot, 1, call, GREAT, [(0,), wrong, None])
        for wrong in NO_MOMENTS:
            self.refuses(BadNumber, "u", together_chances, GREAT, None, wrong)
        self.refuses(TooMany, 401, together_chances, GREAT, [(0,)], 1)


class Parts(Case):
    def test_97_parts(self):
        answers = []
        for n, weights, j in manyjoins.all_joins():
            for t in partings(n):
                expected = True
                for x in manyjoins.strokes_of(weights):
                    if plain.is_finer(x, t):
                        names = {name for pair in plain.together(x) for name in pair}
                        expected = expected and len({t[name] for name in names}) == 1
                self.same(parts_independent(j, t), expected)
                self.same(parts_independent(j=j, t=list(t)), expected)
                answers.append(expected)
        self.assertEqual(set(answers), {True, False})

    def test_97_independent_traces(self):
        for n, weights, j in manyjoins.light_joins():
            for t in partings(n):
                i = j.under(t)
                self.same(parts_independent(j, t), lots_independent(i, blocks_of(t)))
                self.assertEqual(one_time(j, (1, 3)).inside(t), one_time(i, (1, 3)))
                for u in ((1, 3), (49, 50)):
                    X = one_time(j, u).inside(t)
                    equal = True
                    for x in plain.below(t):
                        expected = Fraction(1)
                        for block in blocks_of(t):
                            expected *= exact(X.trace_on(block).at(plain.trace_on(x, block)))
                        equal = equal and exact(X.at(x)) == expected
                    self.same(parts_independent(j, t), equal)

    def test_refused(self):
        for wrong, place in NO_PARTINGS:
            self.refuses(BadParting, place, parts_independent, PATH, wrong)
        self.refuses(OtherSize, 2, parts_independent, PATH, (0, 1))


class Ways(Case):
    def test_98_ways(self):
        answers = []
        for n in (2, 3, 4):
            for weights in manyjoins.pair_tables(n):
                j = Joins(n, weights)
                pairs = [pair for pair in combinations(range(n), 2)
                         if weights[partings(n).index(manyjoins.lot_label(n, pair))] > 0]
                for c, d in product(range(n), repeat=2):
                    along = {step for way in ways(pairs, (c,), d) for step in zip(way, way[1:])} if c != d else set()
                    for a, b in product(range(n), repeat=2):
                        expected = a != b and ((a, b) in along or (b, a) in along)
                        self.same(way_between(j, a, b, c, d), expected)
                        self.same(way_between(j=j, a=a, b=b, c=c, d=d), expected)
                        answers.append(expected)
        self.assertEqual(set(answers), {True, False})

    def test_98_serving(self):
        for n in (3, 4):
            for weights in manyjoins.pair_tables(n):
                j = Joins(n, weights)
                for a, b in combinations(range(n), 2):
                    x = manyjoins.lot_label(n, (a, b))
                    for c, d in combinations(range(n), 2):
                        expected = x in servers(j, manyjoins.lot_label(n, (c, d)))
                        self.same(way_between(j, a, b, c, d), expected)
                        self.same(way_between(j, b, a, d, c), expected)

    def test_98_a_ring_of_six_names(self):
        ring = Joins.of_pairs(6, [(name, (name + 1) % 6, 1) for name in range(6)])
        for a, c, d in product(range(6), repeat=3):
            # Either way round the ring goes from c to d.
            self.same(way_between(ring, a, (a + 1) % 6, c, d), c != d)
            self.same(way_between(ring, a, (a + 2) % 6, c, d), False)
        tree = Joins.of_pairs(6, [(0, 1, 1), (1, 2, 1), (2, 3, 1), (2, 4, 1), (4, 5, 1)])
        self.same([way_between(tree, 4, 2, 0, name) for name in range(6)], [False, False, False, False, True, True])

    def test_one_name_and_no_stroke(self):
        self.same(way_between(Joins(1, (0,)), 0, 0, 0, 0), False)
        self.same(way_between(Joins.of_lots(3, []), 0, 1, 0, 1), False)

    def test_refused(self):
        lots = Joins.of_lots(3, [((0, 1, 2), 1), ((0, 1), 1)])
        for wrong in (*NO_INTEGERS, -1, 3):
            for place in range(4):
                names = [0, 0, 0, 0]
                names[place] = wrong
                self.refuses(BadLot, place, way_between, lots, *names)
        self.refuses(BadLot, 1, way_between, lots, 0, 7, 8, 9)
        self.refuses(NotOneLot, (0, 0, 0), way_between, lots, 0, 1, 0, 1)
        self.refuses(NotOneLot, (0, 0, 0), way_between, lots, 0, 0, 1, 1)
        more = Joins.of_lots(4, [((0, 1), 1), ((1, 2, 3), 1), ((0, 2, 3), 1)])
        self.refuses(NotOneLot, (0, 1, 0, 0), way_between, more, 0, 1, 0, 1)
        self.refuses(NotOneLot, (0, 0, 1, 1), way_between, Joins(4, [0, 0, 0, 1] + [0] * 11), 0, 1, 0, 1)


class Sizes(Case):
    def test_six_names(self):
        j = Joins(6, [1] * 202 + [0])
        r, s = (0, 0, 1, 2, 3, 4), (0, 1, 2, 3, 4, 4)
        self.same((independent(j, r, s), lots_independent(j, [(0, 1), (4, 5)])), (False, False))
        self.same(first_time(j, r, s), plain.told(exact(question_time(j, r)) + exact(question_time(j, s))
                                                  - exact(question_time(j, join(r, s)))))
        self.assertGreater(exact(first_time(j, r, s)), exact(product_time(j, r, s)))
        self.same(closed_chance(j, r, (1, 2)), plain.told(1 - exact(open_poly(j, r)((1, 2)))))
        great = Joins.of_lots(6, [((0, 1, 2), 10 ** 14), ((3, 4, 5), 10 ** 14), ((2, 3), 1)])
        self.same((independent(great, r, s), product_time(great, r, s)), (True, (1, 2 * 10 ** 14)))
        self.same(parts_independent(great, (0, 0, 0, 1, 1, 1)), True)
