"""[1] to [5] and partings.py: names, lots, partings, their order, and what is refused."""

from itertools import combinations, permutations

from mergerates import partings as module
from mergerates.errors import BadLot, BadNumber, BadParting, NotFiner, OtherSize
from mergerates.partings import (
    blocks_of, coarser_than, count_of, finer, join, join_all, lifted, lot_parting, lots_of, meet,
    parting_of, partings, renamed, seen_from, shape_of, singles, together, touched, trace, whole,
)
from tests import plain
from tests.case import NO_INTEGERS, NO_PARTINGS, Case

BAD = (0, 2)


class Names(Case):
    def test_1_two_to_six_names(self):
        for n in range(1, 7):
            self.same(singles(n), tuple(range(n)))
            self.same(whole(n), (0,) * n)

    def test_1_sizes_refused(self):
        for call in (singles, whole, partings):
            for wrong in (*NO_INTEGERS, 0, -1, 7):
                self.refuses(BadNumber, "n", call, wrong)

    def test_5_partings_ascending(self):
        for n, many in zip(range(1, 7), (1, 2, 5, 15, 52, 203)):
            self.same(partings(n), plain.partings_of(n))
            self.same(partings(n), sorted(partings(n)))
            self.assertEqual(len(partings(n)), many)
            self.same(partings(n)[0], whole(n))
            self.same(partings(n)[-1], singles(n))

    def test_2_labels(self):
        self.same(count_of((0, 1, 0, 2)), 3)
        self.refuses(BadParting, 0, count_of, (1, 0, 1, 2))

    def test_2_places_at_which_labels_go_wrong(self):
        calls = (count_of, blocks_of, shape_of, touched, coarser_than)
        for call in calls:
            for wrong, place in NO_PARTINGS:
                self.refuses(BadParting, place, call, wrong)

    def test_2_second_parting_goes_wrong(self):
        for wrong, place in NO_PARTINGS:
            for call in (finer, join, meet, seen_from, lifted):
                self.refuses(BadParting, place, call, (0, 1), wrong)
                self.refuses(BadParting, place, call, wrong, (0, 1, 2))
            self.refuses(BadParting, place, join_all, (0, 1), (0, 1, 2), wrong)


class OneParting(Case):
    def test_2_blocks(self):
        for n in range(1, 7):
            for p in plain.partings_of(n):
                blocks = tuple(tuple(i for i in range(n) if p[i] == k) for k in range(len(set(p))))
                self.same(blocks_of(p), blocks)
                self.same(blocks_of(list(p)), blocks)
                self.same(count_of(p), len(blocks))
                self.same(shape_of(p), tuple(sorted(map(len, blocks), reverse=True)))
                self.same(touched(p), tuple(i for i in range(n) if p.count(p[i]) > 1))

    def test_2_together(self):
        for p in plain.partings_of(4):
            for a in range(4):
                for b in range(4):
                    self.same(together(p, a, b), a == b or (min(a, b), max(a, b)) in plain.together(p))

    def test_together_refuses(self):
        for wrong in (*NO_INTEGERS, -1, 3):
            self.refuses(BadLot, 0, together, (0, 0, 1), wrong, 0)
            self.refuses(BadLot, 1, together, (0, 0, 1), 0, wrong)
            self.refuses(BadLot, 0, together, (0, 0, 1), wrong, wrong)
            self.refuses(BadParting, 1, together, BAD, wrong, wrong)

    def test_parting_of(self):
        self.same(parting_of([5, 3, 5, -2]), (0, 1, 0, 2))
        self.same(parting_of((7,)), (0,))
        self.same(parting_of((9, 8, 7, 6, 5, 4)), (0, 1, 2, 3, 4, 5))
        for p in plain.partings_of(5):
            self.same(parting_of(p), p)
            self.same(parting_of([10 - k for k in p]), p)

    def test_parting_of_refuses(self):
        for wrong in ((), [], None, 3, "001", {0: 1}):
            self.refuses(BadParting, -1, parting_of, wrong)
        for wrong in NO_INTEGERS:
            self.refuses(BadParting, 1, parting_of, (4, wrong, 4, wrong))
        self.refuses(BadParting, 6, parting_of, (0,) * 7)
        self.refuses(BadParting, 6, parting_of, (0,) * 6 + (None, 1))
        self.refuses(BadParting, 5, parting_of, (0,) * 5 + (None, 1, 1))

    def test_3_coarser_than(self):
        for n in range(1, 6):
            every = plain.partings_of(n)
            for p in every:
                self.same(coarser_than(list(p)), [r for r in every if plain.is_finer(p, r)])
        self.assertEqual(coarser_than(singles(6)), partings(6))
        self.same(coarser_than(whole(6)), [whole(6)])


class Lots(Case):
    def test_2_lot_parting(self):
        for n in range(1, 6):
            for lot in plain.all_lots(n):
                expected = plain.parting_with(n, set(combinations(lot, 2)))
                self.same(lot_parting(lot, n), expected)
                self.same(lot_parting(list(lot)[::-1], n), expected)
        self.same(lot_parting((), 6), singles(6))
        self.same(lot_parting((3,), 6), singles(6))

    def test_lot_parting_refuses(self):
        self.check_lots(lambda lot: lot_parting(lot, 4))
        for wrong in (*NO_INTEGERS, 0, 7):
            self.refuses(BadNumber, "n", lot_parting, (9, 9), wrong)

    def check_lots(self, call):
        """How a lot of names below 4 is refused."""
        for wrong in (None, 1, "01", {0: 1}, iter((0, 1))):
            self.refuses(BadLot, -1, call, wrong)
        for wrong in (*NO_INTEGERS, -1, 4):
            self.refuses(BadLot, 1, call, (2, wrong, wrong))
        self.refuses(BadLot, 2, call, [3, 1, 3, 1])
        self.refuses(BadLot, 4, call, [3, 1, 2, 0, 3])

    def test_3_trace(self):
        for n in range(1, 6):
            for p in plain.partings_of(n):
                for lot in plain.all_lots(n)[1:]:
                    expected = plain.trace_on(p, lot)
                    self.same(trace(p, lot), expected)
                    self.same(trace(list(p), list(lot)[::-1]), expected)

    def test_trace_refuses(self):
        self.check_lots(lambda lot: trace((0, 1, 0, 2), lot))
        self.refuses(BadLot, -1, trace, (0, 1, 0, 2), ())
        self.refuses(BadParting, 1, trace, BAD, None)

    def test_renamed(self):
        for p in plain.partings_of(4):
            for names in permutations(range(4)):
                pairs = {tuple(sorted((names[a], names[b]))) for a, b in plain.together(p)}
                self.same(renamed(p, names), plain.parting_with(4, pairs))
                self.same(renamed(list(p), list(names)), plain.parting_with(4, pairs))

    def test_renamed_refuses(self):
        self.check_lots(lambda names: renamed((0, 1, 0, 2), names))
        self.refuses(BadLot, -1, renamed, (0, 1, 0, 2), (0, 1, 3))
        self.refuses(BadLot, -1, renamed, (0,), ())
        self.refuses(BadLot, 1, renamed, (0, 1, 0, 2), (0, 0))
        self.refuses(BadParting, 1, renamed, BAD, None)

    def test_lots_of(self):
        for n in range(1, 7):
            for size in range(n + 1):
                lots = list(lots_of(n, size))
                self.same(lots, list(combinations(range(n), size)))
                self.same(lots, sorted(lots))
        self.same(list(lots_of(size=0, n=3)), [()])

    def test_lots_of_refuses_when_the_iteration_begins(self):
        for n, size, word in ((0, 9, "n"), (7, None, "n"), (True, 0, "n"), (3, 4, "size"), (3, -1, "size"),
                              (3, True, "size"), (3, None, "size")):
            waiting = lots_of(n, size)
            self.refuses(BadNumber, word, next, waiting)


class TwoPartings(Case):
    def test_3_finer(self):
        for n in range(1, 5):
            for p in plain.partings_of(n):
                for r in plain.partings_of(n):
                    self.same(finer(p, r), plain.is_finer(p, r))
                    self.same(finer(list(p), list(r)), plain.is_finer(p, r))

    def test_other_sizes(self):
        for call in (finer, join, meet, seen_from, join_all):
            self.refuses(OtherSize, 3, call, (0, 1), (0, 1, 2))
            self.refuses(OtherSize, 1, call, (0, 1), (0,))
            self.refuses(BadParting, 1, call, (0, 1), BAD)
            self.refuses(BadParting, 1, call, BAD, (1,))

    def test_join_all(self):
        self.same(join_all([0, 1, 0]), (0, 1, 0))
        self.same(join_all((0, 1, 2), (0, 0, 1), (0, 1, 1)), (0, 0, 0))
        for rest in combinations(plain.partings_of(4), 3):
            self.same(join_all(*rest), plain.join_of(rest))

    def test_join_all_refuses(self):
        self.refuses(OtherSize, 3, join_all, (0, 1), (0, 0), (0, 1, 2), (0,))
        self.refuses(BadParting, 1, join_all, (0, 1), (0, 1, 2), (0, 2), (1,))
        self.refuses(BadParting, -1, join_all, ())

    def test_4_seen_and_lifted(self):
        for n in range(1, 6):
            for p, r in plain.comparable(n):
                blocks = [[i for i in range(n) if p[i] == k] for k in range(len(set(p)))]
                one = {(i, k) for i, k in combinations(range(len(blocks)), 2) if r[blocks[i][0]] == r[blocks[k][0]]}
                x = plain.parting_with(len(blocks), one)
                self.same(seen_from(p, r), x)
                self.same(seen_from(list(p), list(r)), x)
                self.same(lifted(p, x), r)
                self.same(lifted(list(p), list(x)), r)

    def test_seen_from_refuses(self):
        for p in plain.partings_of(3):
            for r in plain.partings_of(3):
                if not plain.is_finer(p, r):
                    self.refuses(NotFiner, -1, seen_from, p, r)
        self.refuses(OtherSize, 2, seen_from, (0, 0, 0), (0, 1))

    def test_lifted_refuses(self):
        self.refuses(OtherSize, 3, lifted, (0, 0, 1), (0, 1, 2))
        self.refuses(OtherSize, 1, lifted, (0, 0, 1), (0,))
        self.refuses(BadParting, 0, lifted, (0, 0, 1), (1, 0, 2))

    def test_six_names(self):
        p = (0, 1, 0, 2, 1, 3)
        r = (0, 1, 2, 3, 3, 0)
        self.same(join(p, r), (0, 1, 0, 1, 1, 0))
        self.same(meet(p, r), (0, 1, 2, 3, 4, 5))
        self.same(meet(p, (0, 1, 0, 1, 1, 0)), p)
        self.same(seen_from(p, join(p, r)), (0, 1, 1, 0))

    def test_one_name(self):
        self.same(join((0,), (0,)), (0,))
        self.same(meet((0,), (0,)), (0,))
        self.same(seen_from((0,), (0,)), (0,))
        self.same(trace((0,), (0,)), (0,))
        self.same(coarser_than((0,)), [(0,)])
        self.same(singles(1), whole(1))

    def test_example(self):
        self.same(module.join((0, 0, 1, 2), (0, 1, 1, 2)), (0, 0, 0, 1))
