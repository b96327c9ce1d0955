"""[50] to [52] and means.py: mean times of join worlds."""

from fractions import Fraction

from mergerates.errors import BadParting, OtherSize
from mergerates.joins import Joins
from mergerates.leaving import leaving_time
from mergerates.means import (
    last_chances, question_time, stay_between, stays_by_sums, surely_met, time_below, whole_time,
)
from mergerates.partings import partings, singles, whole
from mergerates.runs import meets, stays
from mergerates.tables import mu
from tests import manyjoins, plain
from tests.case import NO_PARTINGS, Case
from tests.manyjoins import exact, table_dict

GREAT = 10 ** 14
PATH = Joins.of_pairs(3, [(0, 1, 1), (1, 2, 1)])


def total(times):
    """The sum, None if one of them is None."""
    return None if None in times else sum(times, Fraction(0))


class Below(Case):
    def test_50_one_divided_by_the_breaking_rate(self):
        for n, weights, j in manyjoins.all_joins():
            for t in partings(n):
                rate = manyjoins.breaking_of(weights, t)
                self.same(time_below(j, t), None if rate == 0 else (1, rate))
                self.same(time_below(j=j, t=list(t)), time_below(j, t))

    def test_50_the_leaving_time(self):
        for n, weights, j in manyjoins.all_joins():
            for t in partings(n):
                for p in plain.below(t):
                    self.same(leaving_time(j, plain.below(t), p), time_below(j, t))

    def test_50_the_sum_of_the_stays(self):
        for n, weights, j in manyjoins.all_joins():
            time = table_dict(n, stays(j))
            for t in partings(n):
                self.assertEqual(exact(time_below(j, t)), total([time[r] for r in plain.below(t)]))

    def test_50_chances_of_being_met(self):
        for n, weights, j in manyjoins.all_joins():
            time, met = table_dict(n, stays(j)), table_dict(n, meets(j))
            for t in partings(n):
                if not plain.is_finer(j.top, t):
                    self.assertEqual(met[t], time[t] / exact(time_below(j, t)))


class Stays(Case):
    def test_51_runs_from_singles(self):
        for n, weights, j in manyjoins.all_joins():
            self.same(stays_by_sums(j), stays(j))
            self.same(stays_by_sums(j=j), stays(j))

    def test_51_the_sums(self):
        for n, weights, j in manyjoins.all_joins():
            top = manyjoins.top_of(n, weights)
            for t, time in zip(partings(n), stays_by_sums(j)):
                if t == top:
                    self.same(time, None)
                elif plain.is_finer(top, t):
                    self.same(time, (0, 1))
                else:
                    parts = [Fraction(mu(r, t), manyjoins.breaking_of(weights, r)) for r in plain.below(t)]
                    self.same(time, plain.told(sum(parts)))

    def test_51_runs_from_a_parting(self):
        for n, weights, j in manyjoins.all_joins():
            for p in partings(n):
                table = stays(j, p)
                for t, time in zip(partings(n), table):
                    self.same(stay_between(j, p, t), time)
                    self.same(stay_between(j=j, p=list(p), t=list(t)), time)

    def test_no_stroke(self):
        for n in (1, 2, 3, 6):
            j = Joins.of_lots(n, [])
            self.same(stays_by_sums(j), (*[(0, 1)] * (len(partings(n)) - 1), None))
            self.same(stay_between(j, whole(n), whole(n)), None)

    def test_example(self):
        self.same([stays_by_sums(PATH), whole_time(PATH)], [(None, (1, 2), (0, 1), (1, 2), (1, 2)), (3, 2)])

    def test_refused(self):
        for call in (time_below, question_time):
            for wrong, place in NO_PARTINGS:
                self.refuses(BadParting, place, call, PATH, wrong)
            self.refuses(OtherSize, 4, call, PATH, (0, 1, 2, 3))
        for wrong, place in NO_PARTINGS:
            self.refuses(BadParting, place, stay_between, PATH, wrong, (1,))
            self.refuses(BadParting, place, stay_between, PATH, (0, 1), wrong)
        self.refuses(OtherSize, 2, stay_between, PATH, (0, 1), (0,))
        self.refuses(OtherSize, 1, stay_between, PATH, (0, 0, 0), (0,))


class Last(Case):
    def test_52_last_before_top(self):
        for n, weights, j in manyjoins.all_joins():
            rates = plain.rates_told(j.moves)
            expected = {t: Fraction(0) for t in partings(n)}
            for chain, chance in plain.ways_from(rates, singles(n)).items():
                if chain[-1] == j.top and len(chain) > 1:
                    expected[chain[-2]] += chance
            found = last_chances(j)
            self.same(found, tuple(plain.told(chance) for chance in expected.values()))
            self.same(last_chances(j=j), found)
            self.assertEqual(sum(exact(chance) for chance in found), 1 if j.strokes() else 0)

    def test_no_stroke(self):
        for n in (1, 2, 6):
            self.same(last_chances(Joins.of_lots(n, [])), ((0, 1),) * len(partings(n)))


class Questions(Case):
    def test_52_till_the_blocks_are_joined(self):
        for n, weights, j in manyjoins.all_joins():
            for r in partings(n):
                family = [t for t in partings(n) if not plain.is_finer(r, t)]
                if r == singles(n):
                    expected = (0, 1)
                else:
                    expected = leaving_time(j, family, singles(n))
                self.same(question_time(j, r), expected)
                self.same(question_time(j=j, r=list(r)), expected)
                self.same(question_time(j, r) is None, not plain.is_finer(r, j.top))

    def test_52_till_all_are_joined(self):
        for n, weights, j in manyjoins.all_joins():
            found = whole_time(j)
            self.same(whole_time(j=j), found)
            self.same(found is None, j.top != whole(n))
            if found is not None:
                parts = [Fraction(mu(t, whole(n)), manyjoins.breaking_of(weights, t)) for t in partings(n)[1:]]
                self.same(found, plain.told(-sum(parts)))
                self.same(found, question_time(j, whole(n)))

    def test_one_name(self):
        j = Joins(1, (0,))
        self.same((whole_time(j), question_time(j, (0,)), time_below(j, (0,))), ((0, 1), (0, 1), None))

    def test_52_surely_met(self):
        for n, weights, j in manyjoins.all_joins():
            met = table_dict(n, meets(j))
            self.same(surely_met(j), [t for t in partings(n) if met[t] == 1])
            self.same(surely_met(j), sorted({singles(n), j.top}))
        surely_met(PATH).append("x")
        self.same(surely_met(j=PATH), [(0, 0, 0), (0, 1, 2)])


class Sizes(Case):
    def test_six_names(self):
        j = Joins(6, [3] * 202 + [0])
        self.same(stays_by_sums(j), stays(j))
        self.same(whole_time(j), plain.told(sum(exact(time) for time in stays(j)[1:])))
        self.same(question_time(j, singles(6)), (0, 1))

    def test_weights_of_very_different_size(self):
        j = Joins.of_pairs(6, [(0, 1, GREAT), (1, 2, 1), (2, 3, GREAT - 1), (3, 4, 2), (4, 5, GREAT)])
        self.same(stays_by_sums(j), stays(j))
        self.same(question_time(j, (0, 0, 1, 2, 3, 4)), (1, GREAT))
        self.same(time_below(j, (0, 0, 1, 1, 2, 2)), (1, 3))
