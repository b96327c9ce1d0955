"""[54] to [57] and telling.py: join worlds told back from stays and from chances of being met."""

from fractions import Fraction

from mergerates.breaking import breaking_rates
from mergerates.errors import BadNumber, BadTable, OtherSize
from mergerates.joins import Joins
from mergerates.means import time_below
from mergerates.partings import count_of, partings, singles, whole
from mergerates.runs import meets, stays
from mergerates.steady import held_time, steady_to
from mergerates.tables import mu
from mergerates.telling import meets_come, meets_to_breaking, one_factor, stays_come, weights_from_stays
from tests import many, manyjoins, plain
from tests.case import NO_AMOUNTS, NO_INTEGERS, Case
from tests.manyjoins import table_dict


def weights_told(n, c):
    """The sums of [47] for a dict of breaking rates."""
    found = {r: -sum(mu(t, r) * c[t] for t in plain.below(r)) for r in partings(n)}
    found[singles(n)] = Fraction(0)
    return found


def strictly_below(t):
    return [r for r in plain.below(t) if r != t]


def breaking_by_stays(n, time):
    """The words of [54]."""
    found = {}
    for t in partings(n):
        parts = [time[r] for r in plain.below(t)]
        found[t] = Fraction(0) if None in parts else 1 / sum(parts)
    return found


def stays_are_of_joins(n, time):
    c = breaking_by_stays(n, time)
    return c[whole(n)] == 0 and min(weights_told(n, c).values()) >= 0 and all(
        time[t] == 0 for t in partings(n) if any(time[r] is None for r in strictly_below(t)))


def breaking_by_meets(n, chance):
    """The words of [55]."""
    found = {}
    for t in partings(n)[::-1]:
        finer = strictly_below(t)
        if t == singles(n):
            found[t] = Fraction(1)
        elif any(found[r] == 0 for r in finer):
            found[t] = Fraction(0)
        else:
            found[t] = (1 - chance[t]) / sum(chance[r] / found[r] for r in finer)
    return {t: found[t] for t in partings(n)}


def meets_are_of_joins(n, chance):
    c = breaking_by_meets(n, chance)
    return c[whole(n)] == 0 and min(weights_told(n, c).values()) >= 0 and all(
        chance[t] == 0 for t in partings(n) if any(c[r] == 0 for r in strictly_below(t)))


def stays_by_chance(n):
    """Tables of stays, few of them of join worlds."""
    count = len(partings(n))
    for seed, numbers in ((1, (0, 1, None)), (2, ((1, 2), 3, (0, 1), (2, 7))), (3, (0, 0, 0, 1))):
        chance = many.numbers(seed)
        for place in range(6):
            table = [numbers[next(chance) % len(numbers)] for _ in range(count)]
            for last in ((1, 3), None) if place == 0 else (2,):
                yield [*table[:-1], last]
                yield [None, *table[1:-1], last][-count:]


def meets_by_chance(n):
    """Tables of chances of being met, few of them of join worlds."""
    count = len(partings(n))
    for seed, numbers in ((1, (0, 1)), (2, ((1, 2), (1, 3), (3, 4))), (3, (0, 0, (1, 5), 1))):
        chance = many.numbers(seed)
        for _ in range(6):
            table = [numbers[next(chance) % len(numbers)] for _ in range(count)]
            yield [*table[:-1], 1]
            yield [1, *table[1:-1], (1, 1)]


def as_numbers(n, table):
    return {t: number if number is None or isinstance(number, int) else Fraction(*number)
            for t, number in zip(partings(n), table)}


def told_table(found):
    return tuple(plain.told(number) for number in found.values())


class FromStays(Case):
    def test_54_the_weights_back(self):
        for n, weights, j in manyjoins.all_joins():
            table = stays(j)
            self.same(weights_from_stays(n, table), tuple((weight, 1) for weight in j.weights))
            self.same(weights_from_stays(n=n, table=list(table)), weights_from_stays(n, table))
            self.same(stays_come(n, table), True)
            self.same(stays_come(n=n, table=list(table)), True)

    def test_54_weights_that_are_fractions(self):
        for n, weights, j in manyjoins.all_joins((2, 3)):
            table = [None if time is None else plain.told(7 * Fraction(*time)) for time in stays(j)]
            expected = tuple(plain.told(Fraction(weight, 7)) for weight in j.weights)
            self.same(weights_from_stays(n, table), expected)
            self.same(stays_come(n, table), True)

    def test_54_any_table(self):
        answers = []
        for n in (1, 2, 3, 4):
            for table in stays_by_chance(n):
                time = {t: None if number is None else Fraction(number) for t, number
                        in as_numbers(n, table).items()}
                expected = weights_told(n, breaking_by_stays(n, time))
                self.same(weights_from_stays(n, table), told_table(expected))
                self.same(stays_come(n, table), stays_are_of_joins(n, time))
                answers.append(stays_come(n, table))
        self.assertEqual(set(answers), {True, False})

    def test_54_one_number_changed(self):
        for n, weights, j in manyjoins.all_joins((1, 2, 3)):
            for place in range(len(j.weights)):
                for number in (None, 0, (1, 3), 4):
                    table = [*stays(j)[:place], number, *stays(j)[place + 1:]]
                    if number == 0 and place == len(table) - 1:
                        continue
                    time = {t: None if f is None else Fraction(f) for t, f in as_numbers(n, table).items()}
                    self.same(stays_come(n, table), stays_are_of_joins(n, time))

    def test_54_behind_an_end(self):
        # (0, 0, 1) is an end: whole is not met, and there is no time there, not even without end.
        self.same(stays_come(3, (0, None, 0, 0, 1)), True)
        self.same(stays_come(3, (None, None, 0, 0, 1)), False)
        self.same(stays_come(3, (1, None, 0, 0, 1)), False)
        self.same(weights_from_stays(3, (1, None, 0, 0, 1)), ((0, 1), (1, 1), (0, 1), (0, 1), (0, 1)))

    def test_one_name(self):
        self.same((weights_from_stays(1, (None,)), stays_come(1, (None,))), (((0, 1),), True))
        self.same((weights_from_stays(1, (5,)), stays_come(1, ((1, 2),))), (((0, 1),), False))

    def test_refused(self):
        for call in (weights_from_stays, stays_come):
            for wrong in (*NO_INTEGERS, 0, 7):
                self.refuses(BadNumber, "n", call, wrong, None)
            for wrong in (None, 3, "ab", {}, (), (1,), (0, 0, 1), iter((0, 1))):
                self.refuses(BadTable, -1, call, 2, wrong)
            for wrong in (*(item for item in NO_AMOUNTS if item is not None), -1, (-1, 2), False):
                self.refuses(BadTable, 0, call, 2, (wrong, 0))
                self.refuses(BadTable, 1, call, 2, (None, wrong))
            for wrong in (0, (0, 1)):
                self.refuses(BadTable, 4, call, 3, (None, 0, 0, 0, wrong))
                self.refuses(BadTable, 0, call, 1, [wrong])
            self.refuses(BadTable, 2, call, 3, (None, 0, -1, 0, 0))


class FromMeets(Case):
    def test_55_the_breaking_rates_back(self):
        for n, weights, j in manyjoins.all_joins((2, 3, 4)):
            if j.strokes():
                table = meets(j)
                rates = breaking_rates(j)
                expected = tuple(plain.told(Fraction(rate, rates[-1])) for rate in rates)
                self.same(meets_to_breaking(n, table), expected)
                self.same(meets_to_breaking(n=n, table=list(table)), expected)
                self.same(meets_come(n, table), True)
                self.same(meets_come(n=n, table=list(table)), True)

    def test_55_no_stroke(self):
        for n in (2, 3, 4):
            table = meets(Joins.of_lots(n, []))
            self.same(meets_come(n, table), False)

    def test_55_any_table(self):
        answers = []
        for n in (2, 3, 4):
            for table in meets_by_chance(n):
                chance = {t: Fraction(number) for t, number in as_numbers(n, table).items()}
                self.same(meets_to_breaking(n, table), told_table(breaking_by_meets(n, chance)))
                self.same(meets_come(n, table), meets_are_of_joins(n, chance))
                answers.append(meets_come(n, table))
        self.assertEqual(set(answers), {True, False})

    def test_55_one_number_changed(self):
        for n, weights, j in manyjoins.all_joins((2, 3)):
            for place in range(len(j.weights) - 1):
                for number in (0, (1, 3), 1):
                    table = [*meets(j)[:place], number, *meets(j)[place + 1:]]
                    chance = {t: Fraction(f) for t, f in as_numbers(n, table).items()}
                    self.same(meets_come(n, table), meets_are_of_joins(n, chance))

    def test_55_the_world_of_the_weights_has_these_chances(self):
        for n in (2, 3):
            for table in meets_by_chance(n):
                if meets_come(n, table):
                    c = {t: Fraction(*rate) for t, rate in zip(partings(n), meets_to_breaking(n, table))}
                    weights = weights_told(n, c)
                    bottom = 1
                    for weight in weights.values():
                        bottom *= weight.denominator
                    j = Joins(n, [int(weight * bottom) for weight in weights.values()])
                    self.same(meets(j), tuple((f, 1) if isinstance(f, int) else f for f in table))

    def test_example(self):
        table = (1, (1, 2), 0, (1, 2), 1)
        self.same([meets_to_breaking(3, table), meets_come(3, table)],
                  [((0, 1), (1, 2), (1, 1), (1, 2), (1, 1)), True])

    def test_behind_an_end(self):
        # The rate at (0, 0, 1) is 0, so that of whole is 0 and whole must not be met.
        self.same(meets_come(3, (0, 1, 0, 0, 1)), True)
        self.same(meets_come(3, ((1, 2), 1, 0, 0, 1)), False)
        self.same(meets_to_breaking(3, ((1, 2), 1, 0, 0, 1)), ((0, 1), (0, 1), (1, 1), (1, 1), (1, 1)))

    def test_refused(self):
        for call in (meets_to_breaking, meets_come):
            for wrong in (*NO_INTEGERS, 0, 1, 7):
                self.refuses(BadNumber, "n", call, wrong, None)
            for wrong in (None, 3, "ab", {}, (), (1,), (0, 0, 1), iter((0, 1))):
                self.refuses(BadTable, -1, call, 2, wrong)
            for wrong in (*NO_AMOUNTS, -1, 2, (-1, 2), (3, 2), False):
                self.refuses(BadTable, 0, call, 2, (wrong, 5))
                self.refuses(BadTable, 1, call, 2, (1, wrong))
            for wrong in (0, (1, 2), (0, 1)):
                self.refuses(BadTable, 4, call, 3, (1, 0, 0, 0, wrong))
            self.refuses(BadTable, 2, call, 3, (1, 0, 2, 0, 0))


class Factors(Case):
    def test_one_factor(self):
        for n in (1, 2, 3):
            for j in manyjoins.joins_on(n):
                for other in (*manyjoins.joins_on(n), Joins(n, j.weights, times=3)):
                    self.same(one_factor(j, other), factor_of(j, other))
                    self.same(one_factor(j=j, other=other), one_factor(j, other))

    def test_factors_that_are_fractions(self):
        j, other = Joins(2, (6, 0)), Joins(2, (4, 0))
        self.same((one_factor(j, other), one_factor(other, j), one_factor(j, j)), ((2, 3), (3, 2), (1, 1)))

    def test_56_the_same_chances_of_being_met(self):
        for n in (2, 3):
            every = [j for j in manyjoins.joins_on(n) if j.strokes()]
            every += [Joins(n, j.weights, times=7) for j in every]
            for j in every:
                for other in every:
                    self.assertEqual(meets(j) == meets(other), one_factor(j, other) is not None)

    def test_no_stroke(self):
        none, one = Joins(3, (0,) * 5), Joins(3, (1, 0, 0, 0, 0))
        self.same((one_factor(none, none), one_factor(none, one), one_factor(one, none)), ((1, 1), None, None))
        self.same(one_factor(Joins(1, (0,)), Joins(1, (0,))), (1, 1))

    def test_refused(self):
        self.refuses(OtherSize, 2, one_factor, Joins(3, (0,) * 5), Joins(2, (1, 0)))
        self.refuses(OtherSize, 3, one_factor, Joins(2, (1, 0)), Joins(3, (0,) * 5))


def factor_of(j, other):
    """The words of one_factor in the interface."""
    if not j.strokes() and not other.strokes():
        return (1, 1)
    if not j.strokes() or not other.strokes():
        return None
    f = Fraction(sum(other.weights), sum(j.weights))
    equal = all(f * a == b for a, b in zip(j.weights, other.weights))
    return plain.told(f) if equal else None


class Steady(Case):
    def test_57_leaving_times(self):
        for n, rates, w in many.all_worlds():
            i = Joins(n, w.first_rates())
            for t in partings(n):
                if count_of(t) <= steady_to(w):
                    for p in plain.below(t):
                        self.same(held_time(w, t, p), time_below(i, t))


class Sizes(Case):
    def test_six_names(self):
        j = Joins.of_lots(6, [((0, 1, 2), 10 ** 14), ((2, 3), 1), ((3, 4, 5), 7)])
        self.same(weights_from_stays(6, stays(j)), tuple((weight, 1) for weight in j.weights))
        self.same(stays_come(6, stays(j)), True)
        self.same(meets_come(6, meets(j)), True)
        self.same(one_factor(j, Joins(6, j.weights, times=5)), (5, 1))
        self.same(table_dict(6, meets_to_breaking(6, meets(j)))[(0, 0, 0, 1, 1, 1)], Fraction(1, 10 ** 14 + 8))
