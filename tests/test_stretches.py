"""[101] to [103]: stretches of weights, and two questions that hinder one another."""

from fractions import Fraction
from itertools import product

from mergerates.errors import BadNumber, BadParting, BadTable, OtherSize, TooMany
from mergerates.joins import Joins
from mergerates.means import question_time
from mergerates.partings import partings
from mergerates.runs import meets
from mergerates.serving import servers
from mergerates.stretches import Stretches, closed_ends, ends_unlike, time_ends
from mergerates.together import closed_chance
from mergerates.worlds import World
from tests import manyjoins, plain
from tests.case import NO_AMOUNTS, NO_INTEGERS, NO_PARTINGS, Case
from tests.manyjoins import exact

EXAMPLE = Stretches(2, (1, 0), (2, 0))


def wider(weights, step):
    """High weights: some of the low ones made greater, those of no stroke, too."""
    return tuple(weight + (place * step + step) % 3 if place < len(weights) - 1 else 0
                 for place, weight in enumerate(weights))


def some_stretches(n):
    """Lows and highs: equal ones, some wide, all wide, and one alone wide."""
    tables = [weights for weights in manyjoins.weight_tables(n) if sum(weights) < 30]
    for weights in tables[::1 if n < 4 else 4]:
        yield weights, weights
        yield weights, wider(weights, 1)
        yield weights, wider(weights, 2)
    last = len(partings(n)) - 1
    nothing = (0,) * (last + 1)
    for place in range(0, last, 1 if n < 4 else 5):
        yield nothing, tuple(int(at == place) for at in range(last + 1))
        few = [int(at % 2 == place % 2) if at < last else 0 for at in range(last + 1)]
        yield few, [weight + int(at == place) for at, weight in enumerate(few)]


def many_stretches(sizes=(1, 2, 3, 4)):
    for n in sizes:
        for lows, highs in some_stretches(n):
            yield n, tuple(lows), tuple(highs), Stretches(n, lows, highs)


def between(lows, highs, most=9):
    """Some of the tables of weights that agree, those of the ends among them."""
    every = [range(low, high + 1) for low, high in zip(lows, highs)]
    wide = sum(low < high for low, high in zip(lows, highs))
    if wide <= 3:
        return list(product(*every))[:60]
    steps = [tuple(low + (high - low) * (place * k % 3) // 2 for place, (low, high) in enumerate(zip(lows, highs)))
             for k in range(most)]
    return [lows, highs, *steps]


def questions(n):
    return partings(n)[::1 if n < 4 else 3]


def never(time):
    """None is greater than every fraction."""
    return (1, 0) if time is None else (0, Fraction(*time))


class Worlds(Case):
    def test_101_low_high_wide(self):
        for n, lows, highs, a in many_stretches():
            self.same((a.size, a.lows, a.highs), (n, lows, highs))
            for found, weights in ((a.low_joins(), lows), (a.high_joins(), highs)):
                self.same((type(found), found.size, found.weights), (Joins, n, weights))
            self.same(a.wide(), [x for x, low, high in zip(partings(n), lows, highs) if low < high])

    def test_101_without_a_wide_parting(self):
        a = Stretches(3, (1, 0, 2, 0, 0), [1, 0, 2, 0, 0])
        self.same(a.wide(), [])
        self.same(ends_unlike(a, (0, 0, 0)), False)
        least, greatest = closed_ends(a, (0, 0, 0), (1, 3))
        self.same(least, greatest)
        self.same(Stretches(1, [0], (0,)).wide(), [])

    def test_101_agrees(self):
        for n, lows, highs, a in many_stretches((2, 3)):
            for weights in manyjoins.weight_tables(n):
                expected = all(low <= weight <= high for low, weight, high in zip(lows, weights, highs))
                self.same(a.agrees(Joins(n, weights)), expected)
            for weights in between(lows, highs):
                self.same(a.agrees(j=Joins(n, weights)), True)
            for place in range(len(lows) - 1):
                more = [weight + int(at == place) for at, weight in enumerate(highs)]
                self.same(a.agrees(Joins(n, more)), False)
                if lows[place] > 0:
                    less = [weight - int(at == place) for at, weight in enumerate(lows)]
                    self.same(a.agrees(Joins(n, less)), False)

    def test_it_copies_what_it_is_given(self):
        lows, highs = [1, 0], [2, 0]
        a = Stretches(2, lows, highs)
        lows[0] = highs[0] = 7
        self.same((a.lows, a.highs), ((1, 0), (2, 0)))
        a.wide().append("more")
        self.same(a.wide(), [(0, 0)])
        self.same(Stretches(size=2, lows=(1, 0), highs=[2, 0]).highs, (2, 0))

    def test_refused(self):
        for wrong in (*NO_INTEGERS, 0, 7, -1):
            self.refuses(BadNumber, "size", Stretches, wrong, None, None)
        for wrong in (None, 5, "10", {0: 1}, (1,), (1, 0, 0), (), iter((1, 0))):
            self.refuses(BadTable, -1, Stretches, 2, wrong, None)
            self.refuses(BadTable, -1, Stretches, 2, (1, 0), wrong)
        for wrong in (*NO_INTEGERS, -1):
            self.refuses(BadTable, 1, Stretches, 3, (1, wrong, None, 0, 1), None)
            self.refuses(BadTable, 1, Stretches, 3, (1, 0, 0, 0, 0), (1, wrong, None, 0, 1))
            self.refuses(BadTable, 4, Stretches, 3, (1, 0, 0, 0, wrong), None)
            self.refuses(BadTable, 4, Stretches, 3, (1, 0, 0, 0, 0), (1, 0, 0, 0, wrong))
        self.refuses(BadTable, 1, Stretches, 2, (1, 1), None)
        self.refuses(BadTable, 1, Stretches, 2, (1, 0), (1, 1))
        self.refuses(BadTable, 0, Stretches, 2, (2, 0), (1, 1))
        self.refuses(BadTable, 2, Stretches, 3, (1, 0, 2, 0, 0), (1, 5, 1, 0, 0))
        self.refuses(OtherSize, 3, EXAMPLE.agrees, Joins(3, (0,) * 5))


class Ends(Case):
    def test_102_chances(self):
        for n, lows, highs, a in many_stretches():
            for u in ((1, 2), (1, 50), (99, 100))[:1 if n > 3 else 3]:
                for r in questions(n):
                    ends = closed_ends(a, r, u)
                    told = [manyjoins.at_time(n, manyjoins.as_dict(n, weights), u) for weights in (lows, highs)]
                    expected = [sum(f for t, f in at.items() if plain.is_finer(r, t)) for at in told]
                    self.same(ends, tuple(plain.told(number) for number in expected))
                    self.same(closed_ends(stretches=a, r=list(r), u=u), ends)
                    for weights in between(lows, highs, 3):
                        found = closed_chance(Joins(n, weights), r, u)
                        self.assertTrue(exact(ends[0]) <= exact(found) <= exact(ends[1]))

    def test_102_times(self):
        for n, lows, highs, a in many_stretches():
            for r in questions(n):
                ends = time_ends(a, r)
                self.same(ends, (question_time(a.high_joins(), r), question_time(a.low_joins(), r)))
                self.same(time_ends(stretches=a, r=list(r)), ends)
                for weights in between(lows, highs, 3)[:6]:
                    found = question_time(Joins(n, weights), r)
                    self.assertTrue(never(ends[0]) <= never(found) <= never(ends[1]))

    def test_102_ends_that_differ(self):
        answers = []
        for n, lows, highs, a in many_stretches():
            for r in questions(n):
                wide = a.wide()
                expected = any(x in wide for x in servers(a.high_joins(), r))
                self.same(ends_unlike(a, r), expected)
                self.same(ends_unlike(stretches=a, r=list(r)), expected)
                least, greatest = time_ends(a, r)
                self.assertEqual(least != greatest, expected)
                for u in ((1, 2), (1, 50), (99, 100))[:1 if n > 3 else 3]:
                    low, high = closed_ends(a, r, u)
                    self.assertEqual(low != high, expected)
                answers.append((expected, greatest is None))
        self.assertEqual(set(answers), {(True, True), (True, False), (False, True), (False, False)})

    def test_102_which_worlds_have_the_greatest_chance(self):
        answers = []
        for n, lows, highs, a in many_stretches((2, 3)):
            for r in partings(n):
                serving = servers(a.high_joins(), r)
                _, greatest = closed_ends(a, r, (2, 3))
                for weights in between(lows, highs):
                    high = [weight == most for x, weight, most in zip(partings(n), weights, highs) if x in serving]
                    self.assertEqual(closed_chance(Joins(n, weights), r, (2, 3)) == greatest, all(high))
                    answers.append(all(high))
        self.assertEqual(set(answers), {True, False})

    def test_the_beginning(self):
        self.same(closed_ends(EXAMPLE, (0, 0), 1), ((0, 1), (0, 1)))
        self.same(closed_ends(EXAMPLE, (0, 1), (1, 1)), ((1, 1), (1, 1)))

    def test_refused(self):
        great = Stretches(3, (400, 0, 0, 0, 0), (400, 0, 1, 0, 0))
        for wrong in (*NO_AMOUNTS, 0, -1, 2, (0, 1), (-1, 2), (3, 2)):
            self.refuses(BadNumber, "u", closed_ends, great, None, wrong)
        for wrong, place in NO_PARTINGS:
            self.refuses(BadParting, place, closed_ends, great, wrong, (1, 2))
            self.refuses(BadParting, place, time_ends, great, wrong)
            self.refuses(BadParting, place, ends_unlike, great, wrong)
        self.refuses(OtherSize, 2, closed_ends, great, (0, 1), 1)
        self.refuses(OtherSize, 2, time_ends, great, (0, 1))
        self.refuses(OtherSize, 4, ends_unlike, great, (0, 1, 2, 0))
        for u in (1, (1, 2)):
            # The high world tells it, also where the low one alone would answer.
            self.refuses(TooMany, 401, closed_ends, great, (0, 1, 2), u)
        self.refuses(TooMany, 405, closed_ends, Stretches(2, (402, 0), (405, 0)), (0, 1), 1)


class Hindering(Case):
    def test_103_no_join_world(self):
        w = World(4, [((0, 1, 2, 3), (0, 0, 1, 2), 1), ((0, 1, 2, 3), (0, 1, 2, 2), 1)])
        met = dict(zip(partings(4), meets(w)))
        ends = {t: chance for t, chance in met.items() if w.is_end(t) and chance != (0, 1)}
        self.same(ends, {(0, 0, 1, 2): (1, 2), (0, 1, 2, 2): (1, 2)})
        for a, b in ((0, 1), (2, 3)):
            self.same([chance for t, chance in ends.items() if t[a] == t[b]], [(1, 2)])
        self.same([t for t in ends if t[0] == t[1] and t[2] == t[3]], [])
