"""[34], [35], [37], [38], [40], [42] and likejoins.py: worlds beside the joins of their first rates."""

from itertools import product

from mergerates.colours import alike_to_colours, row_exit
from mergerates.errors import BadNumber, BadParting, OtherSize
from mergerates.likejoins import (
    first_joins, is_one_lot, joined_row, joins_here, least_colours, like_joins_at, not_one_lot,
)
from mergerates.likeness import same_chains
from mergerates.partings import count_of, lifted, partings, seen_from, singles, whole
from mergerates.steady import breaking_table, is_steady, steady_partings, steady_to
from mergerates.tables import mu
from mergerates.worlds import World
from tests import many, plain
from tests.case import NO_INTEGERS, NO_PARTINGS, Case

S4 = (0, 1, 2, 3)
EXAMPLE = World(3, [((0, 1, 2), (0, 0, 1), 1), ((0, 0, 1), (0, 0, 0), 3)])


def lots_to_two():
    """The world of [40] that is one lot at a time and steady to 2, and not to 3."""
    every = partings(4)
    three = [p for p in every if count_of(p) == 3]
    two = [p for p in every if count_of(p) == 2]
    moves = [(S4, whole(4), 2)]
    moves += [(p, r, 1) for p in three for r in two if plain.is_finer(p, r)]
    moves += [(p, whole(4), 2) for p in two]
    return World(4, moves)


def plain_first_joins(n, rates):
    weights = {r: rate for (p, r), rate in rates.items() if p == singles(n)}
    return plain.rates_told(many.join_moves(n, weights))


class Below(World):
    KIND = "below"


class JoinedRows(Case):
    def test_34_first_joins(self):
        for n, rates, w in many.all_worlds():
            found = first_joins(world=w)
            self.assertIs(type(found), World)
            self.same(found.size, n)
            self.assertEqual({(p, r): rate for p, r, rate in found}, plain_first_joins(n, rates))

    def test_34_joined_rows(self):
        for n, rates, w in many.all_worlds():
            expected = plain_first_joins(n, rates)
            for p in partings(n):
                seen = partings(count_of(p))
                row = tuple(expected.get((p, lifted(p, x)), 0) for x in seen)
                self.same(joined_row(w, p), row)
                self.same(joined_row(world=w, p=list(p)), row)
            self.same(joined_row(w, singles(n)), w.first_rates())
            self.same(joined_row(w, whole(n)), (0,))

    def test_34_exits_of_joined_rows(self):
        for n, rates, w in many.all_worlds():
            for p, t in plain.comparable(n):
                found = row_exit(count_of(p), joined_row(w, p), seen_from(p, t))
                self.same(found, (w.exit_from(singles(n), t), 1))

    def test_35_like_joins_at(self):
        for n, rates, w in many.all_worlds():
            table = dict(zip(partings(n), breaking_table(w)))
            for p in partings(n):
                equal = w.row_at(p) == joined_row(w, p)
                self.same(like_joins_at(w, p), equal)
                self.same(like_joins_at(world=w, p=list(p)), equal)
                above = [t for t in partings(n) if plain.is_finer(p, t)]
                self.assertEqual(equal, all(w.exit_from(p, t) == table[t] for t in above))

    def test_35_exits_tell_the_rates(self):
        for n, rates, w in many.all_worlds():
            for p, r in many.strict_pairs(n):
                between = [t for t in partings(n) if plain.is_finer(p, t) and plain.is_finer(t, r)]
                self.assertEqual(w(p, r), -sum(mu(t, r) * w.exit_from(p, t) for t in between))

    def test_example(self):
        self.same(first_joins(EXAMPLE).moves,
                  (((0, 1, 0), (0, 0, 0), 1), ((0, 1, 1), (0, 0, 0), 1), ((0, 1, 2), (0, 0, 1), 1)))
        self.same([breaking_table(EXAMPLE), least_colours(EXAMPLE), steady_to(EXAMPLE)],
                  [(0, 0, 1, 1, 1), (1, 1, 1, 1, 3), 1])
        self.same([joined_row(EXAMPLE, p) for p in partings(3)], [(0,), (0, 0), (1, 0), (1, 0), (0, 1, 0, 0, 0)])

    def test_worlds_of_the_kind_world(self):
        found = first_joins(Below(3, EXAMPLE.moves))
        self.assertIs(type(found), World)
        self.same(found.KIND, "world")
        self.same(first_joins(World(1)).moves, ())


class Colours(Case):
    def test_joins_here(self):
        for n, rates, w in many.all_worlds():
            for p in partings(n):
                b = count_of(p)
                for q in range(1, n + 1):
                    expected = alike_to_colours(b, w.row_at(p), joined_row(w, p), min(q, b))
                    self.same(joins_here(w, p, q), expected)
                    self.same(joins_here(world=w, p=list(p), q=q), expected)

    def test_least_colours(self):
        for n, rates, w in many.all_worlds():
            expected = tuple(max(q for q in range(1, count_of(p) + 1) if joins_here(w, p, q)) for p in partings(n))
            self.same(least_colours(world=w), expected)
        self.same(least_colours(World(1)), (1,))

    def test_37_steady_to_q(self):
        for n, rates, w in many.all_worlds():
            for q in range(1, n + 1):
                self.assertEqual(steady_to(w) >= q, all(joins_here(w, p, q) for p in partings(n)))

    def test_37_equal_rows_of_few_blocks(self):
        for n, rates, w in many.all_worlds():
            for p in partings(n):
                if count_of(p) <= steady_to(w):
                    self.same(like_joins_at(w, p), True)

    def test_37_where_it_is_seen(self):
        for n, rates, w in many.all_worlds():
            for q in range(steady_to(w) + 1, n + 1):
                seen = [(p, t) for p, t in plain.comparable(n)
                        if count_of(t) <= q and w.exit_from(p, t) != w.exit_from(singles(n), t)]
                self.assertGreater(len(seen), 0)

    def test_38_steady_to_all(self):
        for n, rates, w in many.all_worlds((2, 3, 4)):
            self.assertEqual(steady_to(w) == n, w == first_joins(w))
            self.assertEqual(steady_to(w) >= n - 1, w == first_joins(w))

    def test_42_joins_of_the_first_rates(self):
        for n, rates, w in many.all_worlds():
            joins = first_joins(w)
            self.same(steady_to(joins), n)
            self.assertEqual(first_joins(joins), joins)
            for p in partings(n):
                self.same(joined_row(joins, p), joined_row(w, p))
                self.same(joins.row_at(p), joined_row(w, p))

    def test_42_added_to_another_world(self):
        for n in many.SIZES:
            worlds = many.worlds_on(n)
            for v, w in zip(worlds, [*worlds[3:], *worlds[:3]]):
                self.same(steady_partings(v + first_joins(w)), steady_partings(v))

    def test_42_one_factor(self):
        for n in (2, 3, 4):
            steady = [w for w in many.worlds_on(n) if steady_to(w) >= n - 1]
            steady += [w * 3 for w in steady]
            for v, w in product(steady, repeat=2):
                if same_chains(v, w):
                    if v.many == 0:
                        self.assertEqual(w, v)
                    else:
                        # One rate tells the factor, and so all rates.
                        p, r, rate = v.moves[-1]
                        self.assertEqual(v * w(p, r), w * rate)


class Lots(Case):
    def test_40_one_lot_at_a_time(self):
        for n, rates, w in many.all_worlds():
            wrong = []
            for p, r in rates:
                sizes = [seen_from(p, r).count(label) for label in range(count_of(r))]
                if len([size for size in sizes if size > 1]) > 1:
                    wrong.append(p)
            self.same(not_one_lot(w), min(wrong, default=None))
            self.same(is_one_lot(w), not wrong)
        self.same(is_one_lot(World(1)), True)
        self.same(not_one_lot(world=World(1)), None)

    def test_40_every_kind_of_lot(self):
        w = World(6, [(singles(6), (0, 0, 0, 0, 1, 2), 1), ((0, 0, 1, 2, 3, 4), (0, 0, 0, 1, 2, 3), 1)])
        self.same(is_one_lot(world=w), True)
        v = World(6, [*w.moves, ((0, 0, 1, 2, 3, 4), (0, 0, 1, 1, 0, 2), 1), (singles(6), (0, 0, 1, 1, 1, 2), 1)])
        self.same(not_one_lot(v), (0, 0, 1, 2, 3, 4))
        self.same(is_one_lot(v), False)

    def test_40_steady_to_three(self):
        found = 0
        for n, rates, w in many.all_worlds((3, 4)):
            if is_one_lot(w) and steady_to(w) >= 3:
                self.assertEqual(w, first_joins(w))
                found += 1
        self.assertGreater(found, 4)

    def test_40_steady_to_two_is_not_enough(self):
        w = lots_to_two()
        self.same([is_one_lot(w), not_one_lot(w), steady_to(w)], [True, None, 2])
        self.same(w == first_joins(w), False)

    def test_40_one_rate_changed(self):
        # No single change of a joined world of lots leaves it steady to 3.
        moves = many.join_moves(4, many.lot_weights(4, 15, (1, 2, 3)))
        self.same(is_one_lot(World(4, moves)), True)
        for place in range(len(moves)):
            w = World(4, many.changed(moves, place))
            if moves[place][0] != S4:
                self.assertLess(steady_to(w), 3)


class Refusals(Case):
    def test_numbers_first(self):
        for wrong in (*NO_INTEGERS, 0, -1, 4):
            self.refuses(BadNumber, "q", joins_here, EXAMPLE, None, wrong)
        self.refuses(BadNumber, "q", joins_here, World(1), (0,), 2)

    def test_q_above_the_blocks(self):
        self.same(joins_here(EXAMPLE, (0, 0, 0), 3), True)
        self.same(joins_here(EXAMPLE, (0, 0, 1), 3), False)
        self.same(joins_here(EXAMPLE, (0, 0, 1), 1), True)

    def test_partings(self):
        for call in (joined_row, like_joins_at, lambda w, p: joins_here(w, p, 1)):
            for wrong, place in NO_PARTINGS:
                self.refuses(BadParting, place, call, EXAMPLE, wrong)
            self.refuses(OtherSize, 2, call, EXAMPLE, (0, 1))
            self.refuses(OtherSize, 4, call, EXAMPLE, S4)


class Sizes(Case):
    def test_six_names(self):
        w = World(6, [(p, r, 10 ** 14 - place * place) for place, (p, r) in enumerate(many.strict_pairs(6))])
        joins = first_joins(w)
        self.assertEqual(joins.first_rates(), w.first_rates())
        self.same(steady_to(joins), 6)
        self.assertEqual(least_colours(joins), tuple(count_of(p) for p in partings(6)))
        self.assertEqual(joins.moves, first_joins(joins).moves)
        self.same(least_colours(w)[-1], 6)
        self.same(least_colours(w)[0], 1)
        self.same(is_steady(w, (0, 0, 0, 1, 1, 1)), False)
        p = (0, 0, 1, 2, 1, 3)
        for t in partings(6):
            if plain.is_finer(p, t):
                self.same(joins.exit_from(p, t), w.exit_from(singles(6), t))
