"""Polynomials in u, and the chances in a join world at u as such polynomials."""

from mergerates.amounts import reduced, summed
from mergerates.breaking import breaking_rates
from mergerates.checks import amount_taken, is_count, is_integer, is_list, partings_on
from mergerates.errors import BadTable, TooMany
from mergerates.labels import all_open, all_partings
from mergerates.tables import nested_places

MOST_DEGREE = 400


def is_term(item):
    return is_list(item) and len(item) == 2 and is_count(item[0]) and is_integer(item[1])


def gathered_terms(items):
    """The terms in order, those of one exponent added, without coefficients of 0."""
    found = {}
    for exponent, coefficient in items:
        found[exponent] = found.get(exponent, 0) + coefficient
    return tuple([(exponent, found[exponent]) for exponent in sorted(found) if found[exponent] != 0])


def powers(base, most):
    """The powers of an integer with the exponents 0, 1, .. most."""
    found = [1]
    for _ in range(most):
        found.append(found[-1] * base)
    return found


class Poly:
    """A polynomial in u with integer coefficients."""

    __slots__ = ("terms",)

    def __init__(self, terms=()):
        if not is_list(terms):
            raise BadTable(-1)
        for place, item in enumerate(terms):
            if not is_term(item):
                raise BadTable(place)
        self.terms = gathered_terms(terms)

    @classmethod
    def term(cls, exponent, coefficient):
        """The polynomial of one term."""
        return Poly([(exponent, coefficient)])

    @property
    def degree(self):
        """The greatest exponent, -1 without a term."""
        return self.terms[-1][0] if len(self.terms) > 0 else -1

    def __add__(self, other):
        if not isinstance(other, Poly):
            return NotImplemented
        return Poly([*self.terms, *other.terms])

    def __sub__(self, other):
        if not isinstance(other, Poly):
            return NotImplemented
        return Poly([*self.terms, *[(exponent, -coefficient) for exponent, coefficient in other.terms]])

    def __mul__(self, other):
        if not isinstance(other, Poly):
            return NotImplemented
        return Poly([(a + b, c * d) for a, c in self.terms for b, d in other.terms])

    def __neg__(self):
        return Poly([(exponent, -coefficient) for exponent, coefficient in self.terms])

    def __eq__(self, other):
        return isinstance(other, Poly) and self.terms == other.terms

    def __bool__(self):
        return bool(self.terms)

    def __iter__(self):
        return iter(self.terms)

    def __call__(self, u):
        """The value at u, a fraction."""
        top, bottom = amount_taken(u, "u")
        most = self.degree
        if most > MOST_DEGREE:
            raise TooMany(most)
        if most < 0:
            return (0, 1)
        tops = powers(top, most)
        bottoms = powers(bottom, most)
        numbers = [many * tops[exponent] * bottoms[most - exponent] for exponent, many in self.terms]
        return reduced(sum(numbers), bottoms[most])

    def mean(self):
        """The sum of coefficient / exponent over the terms, None if there is a term without u."""
        if len(self.terms) > 0 and self.terms[0][0] == 0:
            return None
        return summed([(coefficient, exponent) for exponent, coefficient in self.terms])

    def at_one(self):
        """The sum of the coefficients."""
        return sum([coefficient for _, coefficient in self.terms])


def below_poly(j, t):
    """The chance that X is finer than t."""
    return Poly.term(j.breaking(t), 1)


def chance_polys(j):
    """The list of the chances of X = t, for all t, ascending."""
    rates = breaking_rates(j)
    items = [[] for _ in rates]
    for low, high, factor in nested_places(j.size):
        items[high].append((rates[low], factor))
    return [Poly(part) for part in items]


def poly_among(j, chosen):
    """The chance that X is one of the chosen partings."""
    inside = {t: True for t in chosen}
    polys = [f for t, f in zip(all_partings(j.size), chance_polys(j)) if t in inside]
    return Poly([item for f in polys for item in f])


def open_poly(j, r):
    """The chance that the question r is open."""
    return both_open_poly(j, r, r)


def both_open_poly(j, r, s):
    """The chance that both questions are open."""
    first, second = partings_on(j.size, r, s)
    return poly_among(j, all_open(first, second))
