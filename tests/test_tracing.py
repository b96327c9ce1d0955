"""[9], [11] and tracing.py: traces that go through joins, broken pairs and links."""

from itertools import combinations, product

from mergerates.errors import BadLot, BadParting, OtherSize, TooMany
from mergerates.partings import finer, join_all, partings, together, trace
from mergerates.tracing import broken_link, goes_through
from tests import plain
from tests.case import NO_INTEGERS, NO_PARTINGS, Case

FOUR = [(0, 0, 1, 2), (0, 1, 0, 2), (0, 1, 2, 2), (0, 1, 1, 2)]


def some_lists():
    """All lists of different partings of three names, and all short ones of four names."""
    for n, most in ((1, 1), (2, 2), (3, 5), (4, 3)):
        for many in range(1, most + 1):
            yield from combinations(partings(n), many)


def lots(n):
    return plain.all_lots(n)[1:]


def through(rest, lot):
    return trace(join_all(*rest), lot) == join_all(*[trace(p, lot) for p in rest])


def choices(rest, most):
    for many in range(1, min(most, len(rest)) + 1):
        yield from combinations(rest, many)


def leads(rest, a, b, link):
    """True if link is a link from a to b."""
    here = {a}
    for place in link:
        here = {y for x in here for y in range(len(rest[0])) if y != x and rest[place][x] == rest[place][y]}
    return b in here


def plain_link(rest, lot):
    """The words of broken_link, with every tuple of places looked at."""
    joined = join_all(*[trace(p, lot) for p in rest])
    pairs = [(a, b) for a, b in combinations(lot, 2)
             if together(join_all(*rest), a, b) and not together(joined, lot.index(a), lot.index(b))]
    if not pairs:
        return None
    for many in range(1, len(rest[0])):
        for a, b in pairs:
            for link in product(range(len(rest)), repeat=many):
                if leads(rest, a, b, link):
                    return (a, b, link)
    raise AssertionError("no link")


class Lists(Case):
    def test_9_goes_through(self):
        for rest in some_lists():
            for lot in lots(len(rest[0])):
                self.same(goes_through(rest, lot), through(rest, lot))

    def test_11_choices_of_few_tell_the_list(self):
        for rest in some_lists():
            n = len(rest[0])
            for lot in lots(n):
                joined = join_all(*[trace(p, lot) for p in rest])
                few = all(finer(trace(join_all(*some), lot), joined) for some in choices(rest, n - len(lot) + 1))
                self.assertEqual(goes_through(rest, lot), few)

    def test_11_choices_of_few_tell_all_choices(self):
        for rest in some_lists():
            n = len(rest[0])
            for lot in lots(n):
                every = all(goes_through(some, lot) for some in choices(rest, len(rest)))
                few = all(goes_through(some, lot) for some in choices(rest, n - len(lot) + 1))
                self.assertEqual(every, few)

    def test_11_through_the_list_and_not_through_a_choice(self):
        rest = [(0, 1, 0), (0, 1, 1), (0, 0, 0)]
        self.same(goes_through(rest, (0, 1)), True)
        self.same(goes_through(rest[:2], (0, 1)), False)

    def test_11_links(self):
        for rest in some_lists():
            n = len(rest[0])
            for lot in lots(n):
                found = broken_link(rest, lot)
                self.same(found, plain_link(rest, lot))
                self.assertEqual(found is None, goes_through(rest, lot))
                if found is not None:
                    self.assertLessEqual(len(found[2]), n - len(lot) + 1)
                    self.assertFalse(goes_through([rest[place] for place in found[2]], lot))

    def test_11_least_links_in_longer_lists(self):
        for rest in product(FOUR, repeat=4):
            for lot in ((0, 3), (1, 3), (2, 3), (0, 1, 3)):
                self.same(broken_link(rest, lot), plain_link(rest, lot))

    def test_the_next_place_may_need_another_name(self):
        # Both first steps lead from 0 by place 0; only name 2 goes on by place 1.
        rest = [(0, 0, 0, 1, 2), (0, 1, 2, 3, 2), (0, 1, 2, 1, 3)]
        self.same(broken_link(rest, (0, 4)), (0, 4, (0, 1)))
        self.same(broken_link(rest, (0, 3)), (0, 3, (0, 2)))
        self.same(broken_link(rest, (0, 3, 4)), (0, 3, (0, 2)))

    def test_order_of_the_lot_does_not_matter(self):
        rest = [[0, 1, 1], [0, 1, 0]]
        self.same(broken_link(rest, [1, 0]), (0, 1, (1, 0)))
        self.same(goes_through(tuple(rest), [1, 0]), False)

    def test_example(self):
        self.same(broken_link([(0, 1, 1), (0, 1, 0)], (0, 1)), (0, 1, (1, 0)))

    def test_six_names(self):
        pairs = [(0, 1, 2, 3, 3, 4), (0, 0, 1, 2, 3, 4), (0, 1, 1, 2, 3, 4), (0, 1, 2, 2, 3, 4), (0, 1, 2, 3, 4, 4)]
        self.same(broken_link(pairs, (5, 0)), (0, 5, (1, 2, 3, 0, 4)))
        self.same(goes_through(pairs, (0, 1, 2, 3, 4, 5)), True)


class Refusals(Case):
    def both(self, kind, told, *arguments):
        self.refuses(kind, told, goes_through, *arguments)
        self.refuses(kind, told, broken_link, *arguments)

    def test_partings(self):
        for wrong in ((), [], None, 0, "0", {(0,): 1}):
            self.both(BadParting, -1, wrong, None)
        for wrong, _ in NO_PARTINGS:
            self.both(BadParting, 1, [(0, 1), wrong, wrong], ())

    def test_sizes(self):
        self.both(OtherSize, 3, [(0, 1), (0, 0), (0, 1, 2), (0,)], None)
        self.both(OtherSize, 1, [(0, 1), (0,)] * 40, (0,))
        self.both(BadParting, 2, [(0, 1), (0,), (1,)], (0,))

    def test_lots(self):
        for wrong in (None, (), [], 0, "0"):
            self.both(BadLot, -1, [(0, 1)] * 61, wrong)
        for wrong in (*NO_INTEGERS, -1, 2):
            self.both(BadLot, 1, [(0, 1)], (1, wrong))
        self.both(BadLot, 1, [(0, 1)], (1, 1, 0))

    def test_too_many(self):
        self.same(goes_through([(0, 0, 1)] * 60, (0, 1)), True)
        self.same(broken_link([(0, 0, 1)] * 59 + [(0, 1, 1)], (0, 2)), (0, 2, (0, 59)))
        self.both(TooMany, 61, [(0, 1)] * 61, (0,))
        self.both(TooMany, 99, ((0, 1),) * 99, (0, 1))
