"""[142] and trials.py: trials that leave nothing behind, and reports of worlds."""

from itertools import combinations

from mergerates.both import all_at_once
from mergerates.colours import alike_to_colours
from mergerates.desks import Desk
from mergerates.errors import BadLot, BadNumber, BadTable, NotFiner, NothingToUndo, OtherSize, TooMany
from mergerates.fair import fair_to
from mergerates.joins import Joins
from mergerates.likejoins import first_joins, is_one_lot
from mergerates.likeness import same_chains
from mergerates.numbers import number_memoryless
from mergerates.partings import partings
from mergerates.rows import Counts
from mergerates.steady import steady_to
from mergerates.trials import Trial, compared, report, tried
from mergerates.unseen import alike_to_names
from mergerates.worlds import World
from tests import many, manyrows
from tests.case import Case
from tests.test_desks import rows_of_deeds, some_deed
from tests.test_firsts import some_worlds
from tests.test_onward import variants


class Stop(Exception):
    """An error of a caller."""


def state(desk):
    return (desk.now().lines(), desk.deeds(), desk.depth, desk.note)


def some_desk():
    desk = Desk(World(3), most=6)
    desk.add_stroke((0, 0, 1), 2)
    desk.add_rate((0, 1, 2), (0, 0, 0), 1)
    desk.note_down("two deeds")
    return desk


class Trials(Case):
    def test_the_desk_is_held(self):
        desk = some_desk()
        with Trial(desk) as held:
            self.assertIs(held, desk)
            held.take_times(3)
            self.same((desk.depth, desk.now().many), (3, 4))
        self.same(desk.depth, 2)

    def test_all_comes_back(self):
        desk = some_desk()
        before = state(desk)
        with Trial(desk) as held:
            held.look_from((0, 0, 1))
            held.glue(0, 1)
            held.note = "another"
            held.note_down("a third")
        self.same(state(desk), before)
        with Trial(desk) as held:
            self.same([held.undo(), held.undo()], ["add_rate", "add_stroke"])
            self.assertRaises(NothingToUndo, held.undo)
            held.drop((0, 1, 2))
        self.same(state(desk), before)
        self.same([desk.undo(), desk.undo()], ["add_rate", "add_stroke"])
        self.assertEqual(desk.now(), World(3))

    def test_deeds_by_chance(self):
        for start, chance in rows_of_deeds(range(40)):
            desk = Desk(start)
            for _ in range(4):
                self.some_deeds(desk, chance, 3)
                before = state(desk)
                with Trial(desk):
                    self.some_deeds(desk, chance, 4)
                    while desk.depth > 2:
                        desk.undo()
                    self.some_deeds(desk, chance, 3)
                    desk.note_down("inside")
                self.same(state(desk), before)

    def some_deeds(self, desk, chance, many_of):
        for _ in range(many_of):
            name, rest = some_deed(desk.now().size, chance)
            try:
                getattr(desk, name)(*rest)
            except ValueError:
                continue

    def test_errors_are_not_held_back(self):
        desk = some_desk()
        before = state(desk)
        with self.assertRaises(Stop):
            with Trial(desk) as held:
                held.take_times(5)
                held.note = "gone"
                raise Stop()
        self.same(state(desk), before)
        self.refuses(BadLot, 1, self.glue_in_a_trial, desk)
        self.same(state(desk), before)

    def glue_in_a_trial(self, desk):
        with Trial(desk) as held:
            held.take_times(5)
            held.glue(0, 0)

    def test_leaving_a_block_early(self):
        desk = some_desk()
        before = state(desk)

        def early():
            for _ in range(3):
                with Trial(desk) as held:
                    held.take_times(2)
                    return held.depth
        self.same(early(), 3)
        self.same(state(desk), before)

    def test_trials_inside_trials(self):
        desk = some_desk()
        before = state(desk)
        with Trial(desk):
            desk.take_times(2)
            inner = state(desk)
            with Trial(desk):
                desk.undo()
                desk.undo()
                desk.note = "deep"
            self.same(state(desk), inner)
        self.same(state(desk), before)
        with Trial(desk), Trial(desk) as held:
            held.undo()
        self.same(state(desk), before)

    def test_one_trial_several_times(self):
        desk = some_desk()
        trial = Trial(desk)
        desk.take_times(2)
        for _ in range(2):
            before = state(desk)
            with trial as held:
                held.undo()
                held.undo()
            self.same(state(desk), before)
            desk.take_times(3)
        self.same(desk.depth, 5)

    def test_room(self):
        desk = Desk(World(2), most=2)
        desk.take_times(1)
        with Trial(desk=desk):
            desk.take_times(1)
            self.refuses(TooMany, 2, desk.take_times, 1)
            desk.undo()
            desk.undo()
        self.same(desk.depth, 1)
        desk.take_times(1)
        self.refuses(TooMany, 2, desk.take_times, 1)


class Reports(Case):
    def test_reports(self):
        found = set()
        for n, rates, w in some_worlds():
            expected = (n, len(rates), steady_to(w), fair_to(w), is_one_lot(w), number_memoryless(w), all_at_once(w))
            self.same(report(w), expected)
            self.same(report(world=w), expected)
            found.add((report(w)[4], report(w)[5], report(w)[6] is None))
        self.assertLessEqual({(True, True, True), (True, True, False), (False, False, True), (True, False, True)}, found)

    def test_told_reports(self):
        self.same(report(Joins.of_pairs(3, [(0, 1, 1), (1, 2, 1), (2, 0, 1)])), (3, 6, 3, 1, True, True, None))
        self.same(report(World(1)), (1, 0, 1, 1, True, True, 0))
        self.same(report(World(2)), (2, 0, 2, 1, True, True, 0))
        self.same(report(World(2, [((0, 1), (0, 0), 7)])), (2, 1, 2, 1, True, True, 7))
        # Steady to two, not to three, and one lot at a time cannot be together ([40]).
        first, last = (0, 1, 2, 3), (0, 0, 0, 0)
        moves = [(first, last, 2)]
        for p in partings(4):
            if len(set(p)) == 3:
                moves += [(p, r, 1) for r in partings(4) if len(set(r)) == 2 and all(
                    r[a] == r[b] for a, b in combinations(range(4), 2) if p[a] == p[b])]
            if len(set(p)) == 2:
                moves.append((p, last, 2))
        self.same(report(World(4, moves))[2:5], (2, 1, True))
        self.same(report(Counts(4, (1, 0, 0, 0)))[1:], (31, 1, 3, True, True, None))

    def test_six_names(self):
        whole = Joins(6, [3] + [0] * 202)
        self.same(report(whole), (6, 202, 6, 5, True, True, 3))
        c = Counts(6, [1] + [0] * 9)
        self.same(report(c)[2:], (1, 5, True, True, None))

    def test_40_steady_to_three_and_one_lot_at_a_time(self):
        for n, rates, w in some_worlds((3, 4)):
            if report(w)[4] and report(w)[2] >= 3:
                self.assertEqual(first_joins(w), w)

    def test_tried(self):
        desk = some_desk()
        before = state(desk)
        for deeds in ([], [("take_times", (3,))], [("drop", ((0, 1, 2),)), ("glue", (0, 1))], (["glue", [2, 0]],)):
            self.same(tried(desk, deeds), report(desk.what_if(deeds)))
            self.same(tried(desk=desk, deeds=deeds), tried(desk, deeds))
        self.same(tried(desk, [("look_from", ((0, 0, 0),))]), (1, 0, 1, 1, True, True, 0))
        self.refuses(BadTable, -1, tried, desk, None)
        self.refuses(BadTable, 1, tried, desk, [("take_times", (3,)), None])
        self.refuses(BadNumber, "k", tried, desk, [("take_times", (-1,)), None])
        self.refuses(NotFiner, -1, tried, desk, [("add_stroke", ((0, 1, 2), 1))])
        self.refuses(TooMany, 6, tried, desk, [("take_times", (1,))] * 5)
        self.same(state(desk), before)


class Compared(Case):
    def pairs(self):
        for n in (1, 2, 3, 4):
            worlds = many.worlds_on(n)
            for place, w in enumerate(worlds):
                for step in (0, 1, 3, 7):
                    yield n, w, worlds[(place + step) % len(worlds)]
                yield n, w, w * 2
                yield n, w, first_joins(w)
        for n in (3, 4):
            for _, worlds in variants(n):
                for w, v in combinations(worlds, 2):
                    yield n, w, v

    def test_compared(self):
        answers = set()
        for n, w, v in self.pairs():
            first, second = w.first_rates(), v.first_rates()
            q = max(q for q in range(1, n + 1) if alike_to_colours(n, first, second, q))
            m = max(m for m in range(1, n + 1) if alike_to_names(n, first, second, m))
            expected = (same_chains(w, v), q, m, w.moves == v.moves)
            self.same(compared(w, v), expected)
            self.same(compared(world=w, other=v), expected)
            answers.add((n, *expected))
        self.assertLessEqual({(1, True, 1, 1, True), (2, True, 1, 1, False), (3, False, 1, 1, False),
                              (3, True, 1, 1, False), (4, True, 4, 4, True), (4, False, 1, 3, False)}, answers)

    def test_25_chains_and_first_rates(self):
        for n, w, v in self.pairs():
            chains, q, m, equal = compared(w, v)
            if equal:
                self.same((chains, q, m), (True, n, n))
            self.assertEqual(q == n, w.first_rates() == v.first_rates())
            self.assertEqual(m == n, w.first_rates() == v.first_rates())

    def test_rows_that_colours_or_names_cannot_tell(self):
        w = World(3, [((0, 1, 2), (0, 0, 0), 2)])
        v = World(3, [((0, 1, 2), p, 1) for p in ((0, 0, 1), (0, 1, 0), (0, 1, 1))])
        self.same(compared(w, v), (False, 2, 1, False))
        self.same(compared(w, w + World(3, [((0, 0, 1), (0, 0, 0), 1)])), (True, 3, 3, False))
        i = World(3, [((0, 1, 2), (0, 0, 0), 1)])
        self.same(compared(i, v), (False, 1, 2, False))
        self.same(compared(Counts(4, (1, 0, 0, 0)), Counts(4, (0, 0, 0, 0)))[1:], (1, 1, False))

    def test_six_names(self):
        c, d = Counts(6, [1] * 10), Counts(6, [2] * 10)
        self.same(compared(c, d), (True, 1, 1, False))
        row = manyrows.spread(6, [1] * 10)
        self.same(compared(c, World(6, c.moves)), (True, 6, 6, True))
        self.same(tuple(row.values()), c.first_rates())

    def test_refused(self):
        self.refuses(OtherSize, 3, compared, World(2), World(3))
        self.refuses(OtherSize, 2, compared, World(3), Counts(2, (1,)))
