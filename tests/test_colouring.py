"""[68], [73], [74] and colouring.py: sums by colours."""

from fractions import Fraction
from itertools import product

from mergerates.chances import Chances, one_time
from mergerates.colouring import by_colourings, colour_sum, joined_sum
from mergerates.colours import alike_to_colours, unseen_rows
from mergerates.errors import BadNumber
from mergerates.joins import Joins
from mergerates.missing import chances_of
from mergerates.partings import count_of, parting_of, partings, singles, whole
from mergerates.runs import stays
from mergerates.steady import steady_to
from tests import many, manyjoins, plain
from tests.case import NO_INTEGERS, Case
from tests.manyjoins import table_dict

EVEN = Chances(3, [(1, 5)] * 5)


def some_chances(n):
    return [*[chances_of(n, strokes) for strokes in manyjoins.stroke_lists(n)], *manyjoins.other_chances(n)]


def below(chance, t):
    return sum(chance[x] for x in plain.below(t))


def into_blocks(b, k):
    """The number of partings of b names into k blocks."""
    return len([p for p in partings(b) if count_of(p) == k])


class Sums(Case):
    def test_68_by_blocks(self):
        for n in manyjoins.SIZES:
            for chances in some_chances(n):
                chance = table_dict(n, chances.table)
                for k in range(7):
                    expected = sum(chance[t] * k ** count_of(t) for t in partings(n))
                    self.same(colour_sum(chances, k), plain.told(expected))
                    self.same(colour_sum(chances=chances, k=k), colour_sum(chances, k))

    def test_68_by_rows_of_colours(self):
        for n in manyjoins.SIZES:
            for chances in some_chances(n)[::2]:
                chance = table_dict(n, chances.table)
                for k in range(7 if n < 4 else 4):
                    rows = product(range(k), repeat=n)
                    expected = sum((below(chance, parting_of(row)) for row in rows), Fraction(0))
                    self.same(by_colourings(chances, k), plain.told(expected))
                    self.same(by_colourings(chances=chances, k=k), by_colourings(chances, k))

    def test_68_both_are_equal(self):
        for n in manyjoins.SIZES:
            for chances in some_chances(n):
                for k in range(7):
                    self.same(by_colourings(chances, k), colour_sum(chances, k))

    def test_68_the_chance_of_whole(self):
        for n in manyjoins.SIZES:
            for chances in some_chances(n):
                chance = table_dict(n, chances.table)
                expected = Fraction(0)
                for t in partings(n):
                    factor = 1
                    for k in range(1, count_of(t)):
                        factor *= -k
                    expected += factor * below(chance, t)
                self.same(joined_sum(chances), plain.told(expected))
                self.same(joined_sum(chances=chances), chances.at(whole(n)))

    def test_k_from_0_to_the_names(self):
        self.same([colour_sum(EVEN, k) for k in (0, 1, 2, 3)], [(0, 1), (1, 1), (22, 5), (57, 5)])
        self.same([by_colourings(EVEN, k) for k in (0, 1, 2, 3)], [(0, 1), (1, 1), (22, 5), (57, 5)])
        one = Chances(1, (1,))
        self.same([colour_sum(one, 6), by_colourings(one, 6), joined_sum(one)], [(6, 1), (6, 1), (1, 1)])

    def test_refused(self):
        for call in (colour_sum, by_colourings):
            for wrong in (*NO_INTEGERS, -1, 7):
                self.refuses(BadNumber, "k", call, EVEN, wrong)

    def test_six_names(self):
        X = one_time(Joins(6, [1] * 202 + [0]), (9, 10))
        self.same(by_colourings(X, 6), colour_sum(X, 6))
        self.same(joined_sum(X), X.at(whole(6)))
        still = chances_of(6, [])
        self.same((colour_sum(still, 6), by_colourings(still, 6), joined_sum(still)), ((6 ** 6, 1), (6 ** 6, 1), (0, 1)))


def alike_pairs(n):
    """Join worlds on n names, each beside others that differ by rows that few colours cannot see."""
    base = Joins(n, [*[12 + place % 5 for place in range(len(partings(n)) - 1)], 0])
    for q in range(1, n + 1):
        for row in unseen_rows(n, q):
            yield base, Joins(n, [a + b for a, b in zip(base.weights, row)])
    every = [j for _, _, j in manyjoins.light_joins((n,))]
    yield from product(every[:12], every[:12])
    # Other names change no sum of [68].
    yield Joins.of_pairs(n, [(0, 1, 2)]), Joins.of_pairs(n, [(0, n - 1, 2)])


class Worlds(Case):
    def test_73_weights_alike_to_few_colours(self):
        found = []
        for n in (2, 3, 4):
            for j, i in alike_pairs(n):
                X, Y = one_time(j, (3, 4)), one_time(i, (3, 4))
                q = max(q for q in range(1, n + 1) if alike_to_colours(n, j.weights, i.weights, q))
                for t in partings(n):
                    if count_of(t) <= q:
                        self.same(X.below(t), Y.below(t))
                for k in range(q + 1):
                    self.same(colour_sum(X, k), colour_sum(Y, k))
                found.append((n, q))
        self.assertLessEqual({(3, 1), (3, 2), (4, 1), (4, 2), (4, 3), (4, 4)}, set(found))

    def test_73_the_same_sums_for_every_k(self):
        answers = []
        for n in (2, 3, 4):
            for j, i in alike_pairs(n):
                u = Fraction(3, 4)
                X, Y = one_time(j, (3, 4)), one_time(i, (3, 4))
                alike = all(colour_sum(X, k) == colour_sum(Y, k) for k in range(n + 1))
                sums = [[sum(u ** v.breaking(t) for t in partings(n) if count_of(t) == m) for m in range(1, n + 1)]
                        for v in (j, i)]
                self.assertEqual(alike, sums[0] == sums[1])
                answers.append((alike, j.weights == i.weights))
        self.assertEqual(set(answers), {(True, True), (True, False), (False, False)})

    def test_74_worlds_steady_to_q(self):
        asked = 0
        for n, rates, w in many.all_worlds((2, 3, 4)):
            if [p for p in partings(n) if w.is_end(p)] == [whole(n)]:
                time = table_dict(n, stays(w))
                for k in range(2, steady_to(w) + 1):
                    left = sum(time[p] * into_blocks(count_of(p), k) for p in partings(n)[1:])
                    right = sum(Fraction(1, w.exit_from(singles(n), t)) for t in partings(n) if count_of(t) == k)
                    self.assertEqual(left, right)
                    asked += 1
        self.assertGreater(asked, 20)

    def test_74_join_worlds(self):
        for n, weights, j in manyjoins.all_joins((2, 3, 4)):
            if j.top == whole(n):
                time = table_dict(n, stays(j))
                for k in range(2, n + 1):
                    left = sum(time[p] * into_blocks(count_of(p), k) for p in partings(n)[1:])
                    self.assertEqual(left, sum(Fraction(1, j.breaking(t)) for t in partings(n) if count_of(t) == k))
