"""amounts.py and the fractions of [0.3]."""

from fractions import Fraction

from mergerates.amounts import compare, fraction, minus, multiply, over, plus, power, shown, total
from mergerates.errors import BadNumber, BadTable
from tests.case import NO_AMOUNTS, NO_INTEGERS, Case

FORTY = 10 ** 40 - 1
SOME = (0, 1, -1, 7, (0, 1), (1, 2), (-1, 2), (3, 4), (-5, 3), (FORTY, 2), (-1, FORTY), (FORTY - 1, FORTY))


def exact(f):
    return Fraction(*f) if isinstance(f, tuple) else Fraction(f)


def told(f):
    return (f.numerator, f.denominator)


class Amounts(Case):
    def test_fraction(self):
        self.same(fraction(6, 4), (3, 2))
        self.same(fraction(6, -4), (-3, 2))
        self.same(fraction(-6, -4), (3, 2))
        self.same(fraction(0, -7), (0, 1))
        self.same(fraction(5), (5, 1))
        self.same(fraction(bottom=4, top=2), (1, 2))
        self.same(fraction(FORTY, FORTY), (1, 1))

    def test_fraction_refuses(self):
        for wrong in NO_INTEGERS:
            self.refuses(BadNumber, "top", fraction, wrong)
            self.refuses(BadNumber, "bottom", fraction, 1, wrong)
            self.refuses(BadNumber, "top", fraction, wrong, wrong)
        self.refuses(BadNumber, "bottom", fraction, 1, 0)
        self.refuses(BadNumber, "top", fraction, None, 0)

    def test_sums_differences_products(self):
        for f in SOME:
            for g in SOME:
                self.same(plus(f, g), told(exact(f) + exact(g)))
                self.same(minus(f, g), told(exact(f) - exact(g)))
                self.same(multiply(f, g), told(exact(f) * exact(g)))

    def test_over(self):
        for f in SOME:
            for g in SOME:
                if exact(g) == 0:
                    self.refuses(BadNumber, "g", over, f, g)
                else:
                    self.same(over(f, g), told(exact(f) / exact(g)))

    def test_compare(self):
        for f in SOME:
            for g in SOME:
                self.same(compare(f, g), int(exact(f) > exact(g)) - int(exact(f) < exact(g)))

    def test_power(self):
        for f in SOME:
            for k in (0, 1, 2, 3, 9):
                self.same(power(f, k), told(exact(f) ** k))
        self.same(power((-1, 2), 400), (1, 2 ** 400))
        self.same(power(0, 0), (1, 1))

    def test_power_refuses(self):
        for wrong in (*NO_INTEGERS, -1, 401):
            self.refuses(BadNumber, "k", power, 2, wrong)
            self.refuses(BadNumber, "f", power, (2, 4), wrong)

    def test_two_amounts_refused(self):
        for call in (plus, minus, multiply, over, compare):
            for wrong in NO_AMOUNTS:
                self.refuses(BadNumber, "f", call, wrong, 1)
                self.refuses(BadNumber, "g", call, (1, 2), wrong)
                self.refuses(BadNumber, "f", call, wrong, wrong)
        self.refuses(BadNumber, "f", over, (2, 2), 0)

    def test_total(self):
        self.same(total([]), (0, 1))
        self.same(total(()), (0, 1))
        self.same(total((1, (1, 2), (1, 3))), (11, 6))
        self.same(total([(1, 2), (-1, 2)]), (0, 1))
        self.same(total((1, 2)), (3, 1))
        self.same(total(SOME), told(sum(exact(f) for f in SOME)))

    def test_total_refuses(self):
        for wrong in (None, 1, "12", {1: 2}, iter([1])):
            self.refuses(BadTable, -1, total, wrong)
        for wrong in NO_AMOUNTS:
            self.refuses(BadTable, 2, total, [1, (1, 2), wrong, wrong])

    def test_shown(self):
        self.same(shown((3, 1)), "3")
        self.same(shown(-3), "-3")
        self.same(shown((-3, 4)), "-3/4")
        self.same(shown((0, 1)), "0")
        self.same(shown((10 ** 1499, 3)), "1" + "0" * 1499 + "/3")
        for wrong in NO_AMOUNTS:
            self.refuses(BadNumber, "f", shown, wrong)
