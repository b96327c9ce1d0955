"""listings.py: listings of worlds and of chances."""

from mergerates.chances import Chances, one_time
from mergerates.listings import chances_listing, listing
from mergerates.rows import Counts
from mergerates.worlds import World
from tests import manyjoins, plain
from tests.case import Case
from tests.test_firsts import some_worlds


def labels(p):
    return "".join(str(label) for label in p)


class Listings(Case):
    def test_worlds(self):
        for n, rates, w in some_worlds():
            width = max((len(str(rate)) for rate in rates.values()), default=0)
            lines = [labels(p) + " > " + labels(r) + "  " + " " * (width - len(str(rate))) + str(rate)
                     for (p, r), rate in sorted(rates.items())]
            lines.append(str(n) + " names, " + str(len(rates)) + " moves")
            self.same(listing(w), "\n".join(lines))
            self.same(listing(world=w), listing(w))

    def test_widths(self):
        w = World(3, [((0, 1, 2), (0, 0, 0), 5), ((0, 0, 1), (0, 0, 0), 10 ** 14), ((0, 1, 2), (0, 1, 0), 40)])
        self.same(listing(w).split("\n"), ["001 > 000  100000000000000", "012 > 000                5",
                                           "012 > 010               40", "3 names, 3 moves"])
        self.same([listing(World(1)), listing(World(6))], ["1 names, 0 moves", "6 names, 0 moves"])
        self.same(listing(World(2, [((0, 1), (0, 0), 7)])), "01 > 00  7\n2 names, 1 moves")
        self.same(listing(Counts(2, (12,))), "01 > 00  12\n2 names, 1 moves")

    def test_chances(self):
        for n, weights, j in manyjoins.light_joins():
            X = one_time(j, (2, 3))
            lines = []
            for t, (top, bottom) in zip(plain.partings_of(n), X.table):
                if top > 0:
                    lines.append(labels(t) + "  " + (str(top) if bottom == 1 else str(top) + "/" + str(bottom)))
            self.same(chances_listing(X), "\n".join(lines))
            self.same(chances_listing(chances=X), chances_listing(X))

    def test_told_chances(self):
        self.same(chances_listing(Chances(1, [1])), "0  1")
        self.same(chances_listing(Chances(3, [0, (1, 2), 0, (1, 3), (1, 6)])), "001  1/2\n011  1/3\n012  1/6")
        self.same(chances_listing(Chances(2, (1, 0))), "00  1")
