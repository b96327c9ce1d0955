"""[91], [92], [95], [98], [99] and serving.py: which strokes serve which questions, and what closes two at once."""

from fractions import Fraction
from itertools import combinations, product

from mergerates.chances import one_time
from mergerates.errors import BadParting, NotInside, OtherSize
from mergerates.joins import Joins
from mergerates.means import question_time
from mergerates.nesting import nested
from mergerates.partings import partings, singles, whole
from mergerates.polynomials import open_poly
from mergerates.serving import (
    both_served, chance_at_once, closing_at_once, gatherings, served_at, servers, serves,
)
from tests import many, manyjoins, plain
from tests.case import NO_PARTINGS, Case
from tests.manyjoins import exact

PATH = Joins.of_pairs(3, [(0, 1, 1), (1, 2, 1)])
# Both strokes serve 2 ~ 3 and 0 ~ 1, and nothing closes them at once.
LOTS_95 = Joins.of_lots(4, [((0, 1, 2), 1), ((0, 1, 3), 1)])


def joins_of_sets(n, strokes):
    found = {singles(n)}
    for x in strokes:
        found |= {many.join_of(t, x) for t in found}
    return sorted(found)


def sets_serving(n, strokes, x, r):
    """The words of [91]: the joins of sets of other strokes, each stroke chosen or not, at which x closes r."""
    found = set()
    others = [y for y in strokes if y != x]
    for t in joins_of_sets(n, others):
        if not plain.is_finer(r, t) and plain.is_finer(r, many.join_of(t, x)):
            found.add(t)
    return sorted(found)


def some_questions(n, count=32):
    """All pairs of questions on up to three names, so many of them on four."""
    found = list(product(partings(n), repeat=2))
    return found if n < 4 else found[3::len(found) // count]


class Gathered(Case):
    def test_91_gatherings(self):
        for n, weights, j in manyjoins.all_joins():
            strokes = manyjoins.strokes_of(weights)
            self.same(gatherings(j), joins_of_sets(n, strokes))
            self.same(gatherings(j=j, without=None), gatherings(j))
            for x in partings(n):
                if x in strokes:
                    expected = joins_of_sets(n, [y for y in strokes if y != x])
                    self.same(gatherings(j, without=x), expected)
                    self.same(gatherings(j=j, without=list(x)), expected)
                    self.same(gatherings(j.without(x)), expected)
                else:
                    self.refuses(NotInside, -1, gatherings, j, without=x)
        self.same(gatherings(Joins(1, (0,))), [(0,)])
        self.assertRaises(TypeError, gatherings, PATH, (0, 0, 1))

    def test_each_list_is_new(self):
        gatherings(PATH).clear()
        self.same(gatherings(PATH), [(0, 0, 0), (0, 0, 1), (0, 1, 1), (0, 1, 2)])

    def test_refused(self):
        for wrong, place in NO_PARTINGS:
            if wrong is not None:
                self.refuses(BadParting, place, gatherings, PATH, without=wrong)
        self.refuses(OtherSize, 2, gatherings, PATH, without=(0, 0))
        self.refuses(NotInside, -1, gatherings, PATH, without=(0, 1, 0))
        self.refuses(NotInside, -1, gatherings, PATH, without=(0, 1, 2))


class Serving(Case):
    def test_91_serves(self):
        answers = []
        for n, weights, j in manyjoins.all_joins():
            strokes = manyjoins.strokes_of(weights)
            for r in partings(n):
                serving = []
                for x in strokes:
                    found = sets_serving(n, strokes, x, r)
                    self.same(serves(j, x, r), found != [])
                    self.same(served_at(j, x, r), found[0] if found else None)
                    if found:
                        serving.append(x)
                self.same(servers(j, r), serving)
                answers.append(len(serving) == len(strokes))
                if r == singles(n) or not plain.is_finer(r, j.top):
                    self.same(servers(j, r), [])
        self.assertEqual(set(answers), {True, False})

    def test_arguments_by_name_and_lists(self):
        x, r = (0, 0, 1), (0, 1, 0)
        self.same((serves(j=PATH, x=list(x), r=list(r)), served_at(j=PATH, x=list(x), r=list(r))), (True, (0, 1, 1)))
        self.same(servers(j=PATH, r=list(r)), [(0, 0, 1), (0, 1, 1)])
        self.same(both_served(j=PATH, r=list(r), s=[0, 0, 1]), [(0, 0, 1)])

    def test_both_served(self):
        for n, weights, j in manyjoins.all_joins():
            for r, s in some_questions(n, 16):
                self.same(both_served(j, r, s), [x for x in servers(j, r) if x in servers(j, s)])

    def test_92_a_stroke_left_out(self):
        for n, weights, j in manyjoins.light_joins():
            for x in manyjoins.strokes_of(weights)[::2]:
                i = j.without(x)
                late = [one_time(v, (1, 50)) for v in (j, i)]
                early = [one_time(v, (49, 50)) for v in (j, i)]
                for r in partings(n):
                    serving = serves(j, x, r)
                    for with_x, without in (late, early):
                        more = Fraction(*with_x.above(r)) - Fraction(*without.above(r))
                        self.assertEqual((more > 0, more == 0), (serving, not serving))
                    if plain.is_finer(r, i.top):
                        less = exact(question_time(i, r)) - exact(question_time(j, r))
                        self.assertEqual((less > 0, less == 0), (serving, not serving))
                    elif plain.is_finer(r, j.top):
                        self.same(serving, True)

    def test_98_pairs(self):
        for n in (2, 3, 4):
            for weights in manyjoins.pair_tables(n):
                j = Joins(n, weights)
                pairs = [pair for pair in combinations(range(n), 2) if j.weights[place_of(n, pair)] > 0]
                for c, d in combinations(range(n), 2):
                    along = {frozenset(step) for way in ways(pairs, (c,), d) for step in zip(way, way[1:])}
                    for pair in pairs:
                        found = serves(j, manyjoins.lot_label(n, pair), manyjoins.lot_label(n, (c, d)))
                        self.same(found, frozenset(pair) in along)

    def test_99_nested_questions(self):
        for n, weights, j in manyjoins.all_joins((2, 3, 4)):
            if nested(j):
                for a, b in combinations(range(n), 2):
                    r = manyjoins.lot_label(n, (a, b))
                    self.same(servers(j, r), [x for x in manyjoins.strokes_of(weights) if x[a] == x[b]])

    def test_refused(self):
        for call in (serves, served_at):
            for wrong, place in NO_PARTINGS:
                self.refuses(BadParting, place, call, PATH, wrong, (1,))
                self.refuses(BadParting, place, call, PATH, (0, 1), wrong)
            self.refuses(OtherSize, 2, call, PATH, (0, 1), (0,))
            self.refuses(OtherSize, 1, call, PATH, (0, 1, 0), (0,))
            for x in ((0, 1, 0), (0, 1, 2), (0, 0, 0)):
                self.refuses(NotInside, -1, call, PATH, x, (0, 0, 0))
        for wrong, place in NO_PARTINGS:
            self.refuses(BadParting, place, servers, PATH, wrong)
        self.refuses(OtherSize, 4, servers, PATH, (0, 1, 2, 3))


def place_of(n, pair):
    return partings(n).index(manyjoins.lot_label(n, pair))


def ways(pairs, way, end):
    """The words of [98]."""
    if way[-1] == end:
        return [way]
    found = []
    for name in range(6):
        step = (min(name, way[-1]), max(name, way[-1]))
        if step in pairs and name not in way:
            found.extend(ways(pairs, (*way, name), end))
    return found


class AtOnce(Case):
    def test_95_closing_at_once(self):
        for n, weights, j in manyjoins.all_joins():
            strokes = manyjoins.strokes_of(weights)
            for r, s in some_questions(n, 16):
                expected = []
                for t in joins_of_sets(n, strokes):
                    for x in strokes:
                        end = many.join_of(t, x)
                        still = not plain.is_finer(r, t) and not plain.is_finer(s, t)
                        if still and plain.is_finer(r, end) and plain.is_finer(s, end):
                            expected.append((t, x))
                self.same(closing_at_once(j, r, s), expected)
                self.same(closing_at_once(j=j, r=list(r), s=list(s)), expected)
                for t, x in expected:
                    self.assertIn(x, both_served(j, r, s))

    def test_95_the_chance(self):
        for n, weights, j in manyjoins.all_joins((1, 2, 3)):
            rates = plain.rates_told(j.moves)
            ends = {chain: f for chain, f in plain.ways_from(rates, singles(n)).items() if chain[-1] == j.top}
            for r, s in some_questions(n):
                expected = Fraction(0)
                for chain, f in ends.items():
                    for p, t in zip(chain, chain[1:]):
                        still = not plain.is_finer(r, p) and not plain.is_finer(s, p)
                        if still and plain.is_finer(r, t) and plain.is_finer(s, t):
                            expected += f
                self.same(chance_at_once(j, r, s), plain.told(expected))
                self.same(chance_at_once(j=j, r=list(r), s=list(s)), chance_at_once(j, r, s))

    def test_95_above_0(self):
        for n, weights, j in manyjoins.all_joins():
            for r, s in some_questions(n, 16):
                chance = chance_at_once(j, r, s)
                self.same(chance[0] > 0, closing_at_once(j, r, s) != [])
                self.assertEqual(chance, chance_at_once(j, s, r))

    def test_95_one_question(self):
        # A question closes with itself: surely if top closes it and singles does not.
        for n, weights, j in manyjoins.all_joins():
            for r in partings(n):
                closed = r != singles(n) and plain.is_finer(r, j.top)
                self.same(chance_at_once(j, r, r), (1, 1) if closed else (0, 1))

    def test_95_both_served_and_never_at_once(self):
        r, s = (0, 1, 2, 2), (0, 0, 1, 2)
        strokes = [(0, 0, 0, 1), (0, 0, 1, 0)]
        self.same([both_served(LOTS_95, r, s), closing_at_once(LOTS_95, r, s), chance_at_once(LOTS_95, r, s)],
                  [strokes, [], (0, 1)])

    def test_example(self):
        r, s = (0, 1, 0), (0, 0, 1)
        self.same([servers(PATH, r), closing_at_once(PATH, r, s), chance_at_once(PATH, r, s)],
                  [[(0, 0, 1), (0, 1, 1)], [((0, 1, 1), (0, 0, 1))], (1, 2)])

    def test_refused(self):
        for call in (both_served, closing_at_once, chance_at_once):
            for wrong, place in NO_PARTINGS:
                self.refuses(BadParting, place, call, PATH, wrong, (1,))
                self.refuses(BadParting, place, call, PATH, (0, 1), wrong)
            self.refuses(OtherSize, 2, call, PATH, (0, 1), (0,))
            self.refuses(OtherSize, 1, call, PATH, (0, 1, 0), (0,))


class Sizes(Case):
    def test_six_names(self):
        j = Joins(6, [10 ** 14 - place for place in range(202)] + [0])
        self.assertEqual((len(gatherings(j)), len(servers(j, whole(6)))), (203, 202))
        self.assertEqual(len(servers(j, (0, 0, 1, 2, 3, 4))), 202)
        three = Joins.of_lots(6, [((0, 1, 2), 1), ((2, 3, 4), 10 ** 14), ((4, 5, 0), 1), ((1, 3, 5), 1)])
        strokes = [x for x, _ in three.strokes()]
        r = (0, 1, 2, 3, 4, 0)
        for x in strokes:
            found = sets_serving(6, strokes, x, r)
            self.same(served_at(three, x, r), found[0] if found else None)
        # Where 2, 3, 4 would help to join 0 and 5, the lots 0, 1, 2 and 1, 3, 5 do it alone, or 0, 4, 5.
        self.same(servers(three, r), [x for x in strokes if x != (0, 1, 2, 2, 2, 3)])
        self.same(open_poly(three, (0, 0, 1, 2, 3, 4)).at_one(), 1)
