"""The examples of the interface answer as they are written."""

from mergerates.chances import Chances
from mergerates.joins import Joins
from mergerates.leaving import Clock
from mergerates.worlds import World
from tests.case import Case

MOVES = [((0, 1, 2), (0, 0, 1), 2), ((0, 1, 2), (0, 0, 0), 1), ((0, 0, 1), (0, 0, 0), 4)]


class Examples(Case):
    def test_join(self):
        from mergerates.partings import join
        self.same(join((0, 0, 1, 2), (0, 1, 1, 2)), (0, 0, 0, 1))

    def test_sums_below(self):
        from mergerates.tables import sums_below
        self.same(sums_below(2, (5, 3)), ((8, 1), (3, 1)))

    def test_broken_link(self):
        from mergerates.tracing import broken_link
        self.same(broken_link([(0, 1, 1), (0, 1, 0)], (0, 1)), (0, 1, (1, 0)))

    def test_lines(self):
        self.same(World(3, MOVES).lines(), "names 3\n001 > 000 : 4\n012 > 000 : 1\n012 > 001 : 2")

    def test_stays(self):
        from mergerates.runs import stays
        self.same(stays(World(3, MOVES)), (None, (1, 6), (0, 1), (0, 1), (1, 3)))

    def test_clock(self):
        k = Clock(World(3, MOVES), [(0, 0, 1), (0, 1, 2)])
        self.same([k((0, 1, 2)), k((0, 0, 1)), k.bounds((0, 1, 2)), k.level()], [(1, 2), (1, 4), (1, 4), None])

    def test_held_time(self):
        from mergerates.steady import held_time, unsteady_pair
        first = [((0, 1, 2, 3), (0, 0, 1, 2), 2), ((0, 1, 2, 3), (0, 1, 2, 2), 2), ((0, 1, 2, 3), (0, 0, 0, 0), 2)]
        second = [((0, 0, 1, 2), (0, 0, 1, 1), 1), ((0, 0, 1, 2), (0, 0, 0, 0), 3), ((0, 1, 2, 2), (0, 0, 1, 1), 3)]
        third = [((0, 1, 2, 2), (0, 0, 0, 0), 1), ((0, 0, 1, 1), (0, 0, 0, 0), 2)]
        w = World(4, first + second + third)
        t = (0, 0, 1, 1)
        self.same([unsteady_pair(w, t), held_time(w, t, (0, 1, 2, 3)), held_time(w, t, (0, 0, 1, 2)),
                   held_time(w, t, t)], [((0, 0, 1, 1), (0, 0, 1, 2)), (1, 2), (3, 8), (1, 2)])

    def test_unseen_rows(self):
        from mergerates.colours import alike_to_colours, unlike_colouring, unseen_rows
        row = (2, 0, 0, 0, 0)
        other = (0, 1, 1, 1, 0)
        self.same([alike_to_colours(3, row, other, 2), unlike_colouring(3, row, other, 3), unseen_rows(3, 2)],
                  [True, (0, 1, 2), [(-2, 1, 1, 1, 0)]])

    def test_first_joins(self):
        from mergerates.likejoins import first_joins, least_colours
        from mergerates.steady import breaking_table, steady_to
        w = World(3, [((0, 1, 2), (0, 0, 1), 1), ((0, 0, 1), (0, 0, 0), 3)])
        self.same([breaking_table(w), least_colours(w), steady_to(w)], [(0, 0, 1, 1, 1), (1, 1, 1, 1, 3), 1])
        self.same(first_joins(w).moves,
                  (((0, 1, 0), (0, 0, 0), 1), ((0, 1, 1), (0, 0, 0), 1), ((0, 1, 2), (0, 0, 1), 1)))

    def test_breaking_rates_and_stays_by_sums(self):
        from mergerates.breaking import breaking_rates
        from mergerates.means import stays_by_sums, whole_time
        j = Joins.of_pairs(3, [(0, 1, 1), (1, 2, 1)])
        self.same([j.weights, j.top, breaking_rates(j)], [(0, 1, 0, 1, 0), (0, 0, 0), (0, 1, 2, 1, 2)])
        self.same([stays_by_sums(j), whole_time(j)], [(None, (1, 2), (0, 1), (1, 2), (1, 2)), (3, 2)])

    def test_wanting_at(self):
        from mergerates.breaking import wanting_at, weights_from
        table = (0, 1, 1, 1, 2)
        self.same([weights_from(3, table), wanting_at(3, table)],
                  [((-1, 1), (1, 1), (1, 1), (1, 1), (0, 1)), (0, 0, 0)])

    def test_meets_to_breaking(self):
        from mergerates.telling import meets_come, meets_to_breaking
        table = (1, (1, 2), 0, (1, 2), 1)
        self.same([meets_to_breaking(3, table), meets_come(3, table)],
                  [((0, 1), (1, 2), (1, 1), (1, 2), (1, 1)), True])

    def test_open_poly(self):
        from mergerates.polynomials import open_poly
        f = open_poly(Joins.of_pairs(3, [(0, 1, 1), (1, 2, 1)]), (0, 0, 0))
        self.same([f.terms, f.mean(), f((1, 2))], [((1, 2), (2, -1)), (3, 2), (3, 4)])

    def test_chances_of(self):
        from mergerates.missing import chances_of, comes_of_strokes, misses, strokes_of
        P = chances_of(3, [((0, 1, 1), (1, 2)), ((0, 0, 1), (1, 2))])
        self.same([P.table, strokes_of(P)],
                  [((1, 4), (1, 4), (0, 1), (1, 4), (1, 4)), [((0, 0, 1), (1, 2)), ((0, 1, 1), (1, 2))]])
        Q = Chances(3, [0, (1, 4), (1, 4), (1, 4), (1, 4)])
        self.same([comes_of_strokes(Q), misses(Q)], [False, ((2, 1), (1, 2), (1, 2), (1, 2), (1, 1))])

    def test_leavable(self):
        from mergerates.again import failing_strokes, leavable, rest_joins
        from mergerates.splits import apart_poly, least_extension
        j = Joins.of_pairs(3, [(0, 1, 1), (1, 2, 1)])
        self.same([leavable(j), failing_strokes(j, (0, 2)), rest_joins(j, (1, 2)).weights],
                  [(0, 2), ((0, 0, 1), (0, 1, 1)), (1, 0)])
        self.same([apart_poly(j, (0,), (2,)).terms, least_extension(j, (0,), (2,)), least_extension(j, (0,), (1,))],
                  [((1, 2), (2, -1)), None, ((0,), (1, 2))])

    def test_lots_from_rates(self):
        from mergerates.nesting import lots_from_rates
        self.same(lots_from_rates([(None, 3, 1), (3, None, 1), (1, 1, None)]), [((0, 1), 2), ((0, 1, 2), 1)])

    def test_servers(self):
        from mergerates.serving import chance_at_once, closing_at_once, servers
        j = Joins.of_pairs(3, [(0, 1, 1), (1, 2, 1)])
        r = (0, 1, 0)
        s = (0, 0, 1)
        self.same([servers(j, r), closing_at_once(j, r, s), chance_at_once(j, r, s)],
                  [[(0, 0, 1), (0, 1, 1)], [((0, 1, 1), (0, 0, 1))], (1, 2)])

    def test_covariance(self):
        from mergerates.together import covariance, first_time, product_time
        j = Joins.of_lots(4, [((0, 1), 1), ((0, 1, 2, 3), 1)])
        r = (0, 0, 1, 2)
        s = (0, 1, 2, 2)
        self.same([covariance(j, r, s, (1, 2)), first_time(j, r, s), product_time(j, r, s)],
                  [(1, 8), (1, 2), (1, 3)])

    def test_together_chances(self):
        from mergerates.together import together_chances
        j = Joins.of_lots(4, [((0, 1), 1), ((0, 1, 2, 3), 1)])
        self.same(together_chances(j, [(0, 1), (3, 2)], (1, 2)),
                  [(((0, 0), (0, 0)), (1, 2)), (((0, 0), (0, 1)), (1, 4)), (((0, 1), (0, 1)), (1, 4))])

    def test_closed_ends(self):
        from mergerates.stretches import Stretches, closed_ends, ends_unlike, time_ends
        a = Stretches(2, (1, 0), (2, 0))
        r = (0, 0)
        self.same([closed_ends(a, r, (1, 2)), time_ends(a, r), ends_unlike(a, r)],
                  [((1, 2), (3, 4)), ((1, 2), (1, 1)), True])

    def test_halves(self):
        from mergerates.halves import cut_rates, halves, halves_from_cuts
        row = (1, 2, 0, 0, 0)
        self.same([halves(3, row), cut_rates(3, row), halves_from_cuts(3, (1, 3, 3))],
                  [((5, 4), (1, 4), (1, 4)), ((1, 1), (3, 1), (3, 1)), ((5, 4), (1, 4), (1, 4))])

    def test_twin(self):
        from mergerates.twins import has_true_twin, twin, twin_number
        row = (2, 0, 0, 1, 0)
        self.same([twin(3, row), twin_number(5, 2), has_true_twin(4, (0, 0, 0, 1, 0, 0, 0, 0, 0, 0, 0, 0, 0, 0, 0))],
                  [((0, 1), (1, 1), (1, 1), (2, 1), (0, 1)), (-1, 4), False])

    def test_inside_rates(self):
        from mergerates.lotrows import inside_rates, lots_from_exits
        self.same([inside_rates(3, (2, 1, 0, 0, 0)), lots_from_exits(3, (0, 2, 3, 3, 3))],
                  [((0, 1), (0, 1), (0, 1), (1, 1), (0, 1), (0, 1), (0, 1), (3, 1)),
                   ((2, 1), (1, 1), (0, 1), (0, 1), (0, 1))])

    def test_triangle(self):
        from mergerates.lotrows import from_triangle, triangle
        self.same([triangle(3, 4, 5), triangle(1, 1, 3), from_triangle(1, 1, 3)],
                  [((3, 1), (2, 1), (1, 1)), ((3, 2), (3, 2), (-1, 2)), False])

    def test_going(self):
        from mergerates.fair import going, unfair_at
        w = World(3, MOVES)
        self.same([going(w, (0, 1), (0, 1, 2)), unfair_at(w, 2)],
                  [[((0, 0), 3)], ((0, 1), (0, 1, 0), (0, 1, 2))])

    def test_next_stretch(self):
        from mergerates.onward import goes_on, next_rates, next_stretch, total_ends
        self.same([next_stretch([3, 1, 2]), next_rates([3, 1, 2], 1)],
                  [((1, 1), (2, 1)), ((3, 1), (0, 1), (1, 1), (1, 1))])
        self.same([goes_on(4, (0, 1, 0, 0), 5), total_ends(3, (2, 1), 4)], [None, ((7, 1), (13, 1))])

    def test_first_meeting(self):
        from mergerates.fair import pair_rate
        from mergerates.firsts import first_meeting, three_first
        from mergerates.rows import Counts
        c = Counts(4, (1, 0, 0, 0))
        t = Counts(4, (0, 0, 1, 0))
        self.same([pair_rate(c), first_meeting(c, [(0, 1), (2, 3)]), three_first(c, 0, 1, 2, 3)], [1, (11, 18), False])
        self.same([pair_rate(t), t.numbers_at(3), first_meeting(t, [(0, 1), (2, 3)]), three_first(t, 0, 1, 2, 3)],
                  [2, (1, 1), (1, 4), True])

    def test_pairs_kind(self):
        from mergerates.both import by_number
        from mergerates.numbers import number_stays, pairs_kind
        j = Joins.of_pairs(3, [(0, 1, 1), (1, 2, 1), (2, 0, 1)])
        self.same([pairs_kind(j), number_stays(j), by_number(j)], ['ring', (None, (1, 2), (1, 3)), (0, 2, 3)])

    def test_desk(self):
        from mergerates.desks import Desk
        d = Desk(World(3))
        self.same([d.add_stroke((0, 0, 1), 2), d.add_rate((0, 1, 2), (0, 0, 0), 1)], [None, None])
        self.same(d.what_if([("drop", ((0, 1, 2),)), ("take_times", (3,))]).moves,
                  (((0, 1, 0), (0, 0, 0), 6), ((0, 1, 1), (0, 0, 0), 6)))
        self.same([d.deeds(), d.depth, d.undo(), d.depth], [('add_stroke', 'add_rate'), 2, 'add_rate', 1])

    def test_listing(self):
        from mergerates.listings import listing
        from mergerates.trials import report
        j = Joins.of_pairs(3, [(0, 1, 12)])
        self.same(listing(j), '010 > 000  12\n011 > 000  12\n012 > 001  12\n3 names, 3 moves')
        self.same(report(Joins.of_pairs(3, [(0, 1, 1), (1, 2, 1), (2, 0, 1)])), (3, 6, 3, 1, True, True, None))
