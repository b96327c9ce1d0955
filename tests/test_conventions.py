"""[0.1] to [0.5]: what holds of all functions."""

import copy

from mergerates import (
    amounts, colours, leaving, likejoins, likeness, partings, runs, seen, steady, tables, tracing,
)
from mergerates.errors import (
    BadLot, BadNumber, BadParting, BadTable, NotFiner, NotInside, OtherSize, TooMany,
)
from mergerates.worlds import World, reached
from tests.case import NO_AMOUNTS, Case

WORLD = World(3, [((0, 1, 2), (0, 0, 1), 2), ((0, 1, 2), (0, 0, 0), 1), ((0, 0, 1), (0, 0, 0), 4)])
FAMILY = [[0, 1, 2], [0, 0, 1]]
CLOCK = leaving.Clock(WORLD, FAMILY)

# Each function with arguments by name, everything that may be a list being a list.
CALLS = (
    (amounts.fraction, {"top": 6, "bottom": 4}), (amounts.plus, {"f": (1, 2), "g": 1}),
    (amounts.minus, {"f": (1, 2), "g": 1}), (amounts.multiply, {"f": (1, 2), "g": 3}),
    (amounts.over, {"f": (1, 2), "g": 3}), (amounts.compare, {"f": (1, 2), "g": 3}),
    (amounts.power, {"f": (1, 2), "k": 3}), (amounts.total, {"rest": [1, (1, 2), -4]}),
    (amounts.shown, {"f": (1, 2)}),
    (partings.singles, {"n": 3}), (partings.whole, {"n": 3}), (partings.lot_parting, {"lot": [2, 0], "n": 4}),
    (partings.parting_of, {"marks": [4, 2, 4]}), (partings.partings, {"n": 4}),
    (partings.count_of, {"p": [0, 1, 0]}), (partings.blocks_of, {"p": [0, 1, 0]}),
    (partings.shape_of, {"p": [0, 1, 0]}), (partings.touched, {"p": [0, 1, 0]}),
    (partings.together, {"p": [0, 1, 0], "a": 2, "b": 0}), (partings.finer, {"p": [0, 1, 2], "r": [0, 1, 0]}),
    (partings.join, {"p": [0, 1, 1], "r": [0, 1, 0]}), (partings.meet, {"p": [0, 0, 0], "r": [0, 1, 0]}),
    (partings.join_all, {"p": [0, 1, 1]}), (partings.trace, {"p": [0, 1, 1], "lot": [2, 0]}),
    (partings.seen_from, {"p": [0, 1, 1], "r": [0, 0, 0]}), (partings.lifted, {"p": [0, 1, 1], "x": [0, 0]}),
    (partings.renamed, {"p": [0, 1, 1], "names": [2, 0, 1]}), (partings.coarser_than, {"p": [0, 1, 1]}),
    (tables.mu, {"p": [0, 1, 2], "r": [0, 1, 1]}), (tables.sums_below, {"n": 2, "table": [(1, 2), 3]}),
    (tables.sums_above, {"n": 2, "table": [(1, 2), 3]}), (tables.told_below, {"n": 2, "table": [(1, 2), 3]}),
    (tables.told_above, {"n": 2, "table": [(1, 2), 3]}), (tables.counts_by_touch, {"n": 4}),
    (tables.without_alone, {"k": 4}), (tables.colour_count, {"p": [0, 1, 0], "k": 3}),
    (tracing.goes_through, {"rest": [[0, 1, 1], [0, 1, 0]], "lot": [1, 0]}),
    (tracing.broken_link, {"rest": [[0, 1, 1], [0, 1, 0]], "lot": [1, 0]}),
    (WORLD, {"p": [0, 1, 2], "r": [0, 0, 1]}), (WORLD.total_from, {"p": [0, 1, 2]}),
    (WORLD.from_here, {"p": [0, 1, 2]}), (WORLD.is_end, {"p": [0, 1, 2]}), (WORLD.row_at, {"p": [0, 1, 2]}),
    (WORLD.exit_from, {"p": [0, 1, 2], "t": [0, 0, 1]}), (WORLD.first_rates, {}), (WORLD.lines, {}),
    (World.line_of, {"move": [[0, 1, 2], [0, 0, 1], 2]}), (reached, {"world": WORLD, "start": [0, 1, 2]}),
    (runs.stays, {"world": WORLD, "start": [0, 1, 2]}), (runs.meets, {"world": WORLD, "start": [0, 0, 1]}),
    (runs.chain_chance, {"world": WORLD, "chain": [[0, 1, 2], [0, 0, 1]]}),
    (leaving.exits, {"world": WORLD, "family": FAMILY}), (leaving.memoryless, {"world": WORLD, "family": FAMILY}),
    (leaving.leaving_time, {"world": WORLD, "family": FAMILY, "start": [0, 0, 1]}),
    (CLOCK, {"p": [0, 1, 2]}), (CLOCK.bounds, {"p": [0, 1, 2]}), (CLOCK.level, {}),
    (likeness.factor_at, {"world": WORLD, "other": WORLD * 2, "p": [0, 1, 2]}),
    (likeness.unlike_chain, {"world": WORLD, "other": WORLD + World(3, [((0, 0, 1), (0, 0, 0), 1)])}),
    (likeness.unlike_chain, {"world": WORLD, "other": World(3)}),
    (likeness.same_chains, {"world": WORLD, "other": WORLD}),
    (steady.finer_than, {"t": [0, 0, 1]}), (steady.is_steady, {"world": WORLD, "t": [0, 0, 1]}),
    (steady.unsteady_pair, {"world": WORLD, "t": [0, 0, 1]}), (steady.steady_partings, {"world": WORLD}),
    (steady.steady_to, {"world": WORLD}),
    (steady.held_time, {"world": WORLD, "t": [0, 0, 1], "start": [0, 1, 2]}),
    (steady.breaking_table, {"world": WORLD}),
    (colours.row_exit, {"b": 3, "row": [1, (1, 2), 0, -3, 0], "t": [0, 0, 1]}),
    (colours.alike_to_colours, {"b": 3, "row": [2, 0, 0, 0, 0], "other": [0, 1, 1, 1, 0], "q": 2}),
    (colours.unlike_colouring, {"b": 3, "row": [2, 0, 0, 0, 0], "other": [0, 1, 1, 1, 0], "q": 3}),
    (colours.seen_to, {"b": 3, "row": [1, (1, 2), 0, -3, 0], "q": 2}), (colours.unseen_rows, {"b": 4, "q": 2}),
    (likejoins.joined_row, {"world": WORLD, "p": [0, 0, 1]}),
    (likejoins.like_joins_at, {"world": WORLD, "p": [0, 0, 1]}),
    (likejoins.joins_here, {"world": WORLD, "p": [0, 0, 1], "q": 2}), (likejoins.least_colours, {"world": WORLD}),
    (likejoins.is_one_lot, {"world": WORLD}), (likejoins.not_one_lot, {"world": WORLD}),
)
# These answer by a World, which repr does not tell.
WORLD_CALLS = (
    (seen.seen_world, {"world": WORLD, "p": [0, 0, 1]}), (seen.below_world, {"world": WORLD, "t": [0, 0, 1]}),
    (seen.renamed_world, {"world": WORLD, "names": [2, 0, 1]}), (likejoins.first_joins, {"world": WORLD}),
)


def frozen(value):
    """The same with tuples instead of lists."""
    return tuple(frozen(item) for item in value) if isinstance(value, list) else value


def told(named):
    """The arguments with each world as its text."""
    return {word: value.lines() if isinstance(value, World) else value for word, value in named.items()}


class Conventions(Case):
    def test_0_3_by_position_by_name_lists_and_tuples(self):
        for call, named in CALLS:
            with self.subTest(call=call, named=named):
                answer = call(**named)
                self.same(call(*named.values()), answer)
                self.same(call(**{word: frozen(value) for word, value in named.items()}), answer)

    def test_0_3_arguments_are_not_changed(self):
        for call, named in CALLS:
            with self.subTest(call=call):
                before = told({word: copy.deepcopy(value) for word, value in named.items()})
                call(**named)
                self.same(told(named), before)

    def test_0_3_answers_that_are_worlds(self):
        for call, named in WORLD_CALLS:
            with self.subTest(call=call):
                before = told({word: copy.deepcopy(value) for word, value in named.items()})
                answer = call(**named)
                self.assertEqual(call(*named.values()), answer)
                self.assertEqual(call(**{word: frozen(value) for word, value in named.items()}), answer)
                self.same(told(named), before)

    def test_0_3_returned_lists_are_new(self):
        for call, named in CALLS:
            answer = call(**named)
            if isinstance(answer, list):
                expected = list(answer)
                answer.append("more")
                answer[0] = "other"
                self.same(call(**named), expected)

    def test_0_3_what_is_a_list_and_what_a_tuple(self):
        lists = [partings.partings, partings.coarser_than, WORLD.from_here, reached, steady.finer_than,
                 steady.steady_partings, colours.unseen_rows]
        for call, named in CALLS:
            with self.subTest(call=call):
                self.assertEqual(isinstance(call(**named), list), call in lists)

    def test_0_3_partings_are_returned_as_tuples(self):
        p = [0, 1, 1]
        for found in (partings.coarser_than(p)[-1], partings.join_all(p), reached(World(3), p)[0]):
            self.same(found, (0, 1, 1))

    def test_0_3_fractions(self):
        for wrong in NO_AMOUNTS:
            self.refuses(BadNumber, "f", amounts.plus, wrong, 0)
            self.refuses(BadTable, 0, amounts.total, [wrong])
            self.refuses(BadTable, 1, tables.sums_below, 2, (0, wrong))

    def test_0_3_true_is_no_integer(self):
        self.refuses(BadNumber, "n", partings.singles, True)
        self.refuses(BadNumber, "k", tables.without_alone, False)
        self.refuses(BadParting, 0, partings.count_of, (False,))
        self.refuses(BadLot, 0, partings.trace, (0, 1), (True,))
        self.refuses(BadTable, 0, World, 2, [((0, 1), (0, 0), True)])

    def test_0_3_order(self):
        self.same((0, 1) < (0, 1, 0), True)
        self.same(list(partings.lots_of(3, 2)), [(0, 1), (0, 2), (1, 2)])
        self.same(partings.partings(3), [(0, 0, 0), (0, 0, 1), (0, 1, 0), (0, 1, 1), (0, 1, 2)])

    def test_0_4_which_error_is_first(self):
        bad, other, lot = (0, 2), (0, 1, 2, 3), (5, 5)
        for kind, told, call in (
            (BadNumber, "n", lambda: partings.lot_parting(lot, 9)),
            (BadNumber, "k", lambda: tables.colour_count(bad, -1)),
            (BadNumber, "n", lambda: tables.told_above(0, None)),
            (BadParting, 1, lambda: partings.join(bad, other)),
            (BadParting, 1, lambda: partings.join(other, bad)),
            (BadParting, 1, lambda: partings.join_all((0, 1), other, bad)),
            (BadParting, 1, lambda: partings.trace(bad, lot)),
            (BadParting, 1, lambda: partings.renamed(bad, lot)),
            (BadParting, 1, lambda: partings.together(bad, 9, 9)),
            (BadParting, 1, lambda: tables.mu(other, bad)),
            (BadParting, 1, lambda: WORLD.exit_from(other, bad)),
            (BadParting, 1, lambda: tracing.goes_through([other, bad], lot)),
            (OtherSize, 4, lambda: partings.seen_from((0, 0), other)),
            (OtherSize, 4, lambda: tables.mu((0, 0), other)),
            (OtherSize, 4, lambda: WORLD.exit_from((0, 0, 0), other)),
            (OtherSize, 4, lambda: tracing.broken_link([(0, 1), other] * 40, lot)),
            (BadLot, 0, lambda: tracing.broken_link([(0, 1)] * 80, lot)),
            (TooMany, 80, lambda: tracing.broken_link([(0, 1)] * 80, (1, 0))),
            (NotFiner, -1, lambda: WORLD.exit_from((0, 0, 0), (0, 1, 2))),
        ):
            self.refuses(kind, told, call)

    def test_0_4_which_error_is_first_in_worlds(self):
        bad, other, least, last = (0, 2), (0, 1, 2, 3), (0, 0, 0), (0, 1, 2)
        for kind, told, call in (
            (BadParting, 1, lambda: runs.stays(WORLD, other, inside=bad)),
            (BadParting, 1, lambda: runs.stays(WORLD, bad, inside=(1,))),
            (OtherSize, 4, lambda: runs.stays(WORLD, least, inside=other)),
            (NotFiner, -1, lambda: runs.stays(WORLD, least, inside=last)),
            (BadParting, 2, lambda: runs.chain_chance(WORLD, [least, other, bad])),
            (OtherSize, 4, lambda: runs.chain_chance(WORLD, [least, last, other])),
            (NotFiner, 1, lambda: runs.chain_chance(WORLD, [least, last, last])),
            (BadParting, 1, lambda: leaving.leaving_time(WORLD, [other, bad], (1,))),
            (BadParting, 0, lambda: leaving.leaving_time(WORLD, [other, last], (1,))),
            (OtherSize, 4, lambda: leaving.leaving_time(WORLD, [last, other], (0,))),
            (OtherSize, 1, lambda: leaving.leaving_time(WORLD, [last], (0,))),
            (NotInside, -1, lambda: leaving.leaving_time(WORLD, [last], least)),
            (BadParting, 1, lambda: leaving.Clock(WORLD, [other, other])),
            (OtherSize, 4, lambda: leaving.Clock(WORLD, [last, other])),
            (BadParting, 1, lambda: CLOCK(bad)), (OtherSize, 4, lambda: CLOCK(other)),
            (NotInside, -1, lambda: CLOCK(least)), (NotInside, -1, lambda: CLOCK.bounds(least)),
            (BadParting, 1, lambda: likeness.factor_at(WORLD, World(2), bad)),
            (OtherSize, 2, lambda: likeness.factor_at(WORLD, World(2), other)),
            (OtherSize, 4, lambda: likeness.factor_at(WORLD, WORLD, other)),
            (OtherSize, 2, lambda: likeness.same_chains(WORLD, World(2))),
            (BadLot, 1, lambda: seen.renamed_world(WORLD, (0, 0))),
            (BadLot, -1, lambda: seen.renamed_world(WORLD, (0, 1))),
            (BadParting, 1, lambda: steady.held_time(WORLD, other, bad)),
            (OtherSize, 4, lambda: steady.held_time(WORLD, least, other)),
            (NotFiner, -1, lambda: steady.held_time(WORLD, last, least)),
            (BadNumber, "b", lambda: colours.row_exit(0, None, bad)),
            (BadParting, 1, lambda: colours.row_exit(3, None, bad)),
            (OtherSize, 4, lambda: colours.row_exit(3, None, other)),
            (BadTable, -1, lambda: colours.row_exit(3, None, least)),
            (BadNumber, "b", lambda: colours.alike_to_colours(7, None, None, 9)),
            (BadNumber, "q", lambda: colours.alike_to_colours(3, None, None, 4)),
            (BadTable, 0, lambda: colours.alike_to_colours(1, (5,), None, 1)),
            (BadTable, -1, lambda: colours.alike_to_colours(1, (0,), None, 1)),
            (BadNumber, "q", lambda: likejoins.joins_here(WORLD, bad, 4)),
            (BadParting, 1, lambda: likejoins.joins_here(WORLD, bad, 3)),
            (OtherSize, 4, lambda: likejoins.joins_here(WORLD, other, 3)),
        ):
            self.refuses(kind, told, call)

    def test_0_4_a_refused_call_changes_nothing(self):
        before = (WORLD.size, WORLD.moves, WORLD.lines())
        self.refuses(OtherSize, 2, lambda: WORLD + World(2))
        self.refuses(BadNumber, "k", lambda: WORLD * -1)
        self.refuses(NotFiner, -1, WORLD.exit_from, (0, 0, 0), (0, 1, 2))
        self.same((WORLD.size, WORLD.moves, WORLD.lines()), before)

    def test_0_5_sizes_of_answers(self):
        top = 10 ** 40 - 1
        self.same(amounts.power((top, top - 1), 37), (top ** 37, (top - 1) ** 37))
        moves = [((0, 1), (0, 0), 10 ** 14)] * 2500
        self.same(World(2, moves).moves, (((0, 1), (0, 0), 2500 * 10 ** 14),))

    def test_0_5_sizes_of_worlds(self):
        # All moves on six names at great rates, the same from each parting: the stays are told by few digits.
        every = partings.partings(6)
        moves = [(p, r, 10 ** 14 - partings.count_of(p)) for p in every for r in partings.coarser_than(p) if p != r]
        w = World(6, moves)
        many = {p: len(partings.coarser_than(p)) - 1 for p in every}
        met = dict(zip(every, runs.meets(w)))
        for p, time in zip(every, runs.stays(w)):
            if p == every[0]:
                self.same((time, met[p]), (None, (1, 1)))
            else:
                self.same(time, amounts.over(met[p], many[p] * (10 ** 14 - partings.count_of(p))))
        family = every[1:]
        self.same(leaving.leaving_time(w, family, every[-1]), amounts.total(runs.stays(w)[1:]))
        self.same(leaving.Clock(w, family).bounds(every[-1]), (10 ** 14 - 6, 10 ** 14 - 2))
        self.same(likeness.factor_at(w, w * 10 ** 14, every[-1]), (10 ** 14, 1))
        top = 10 ** 40 - 1
        row = [(-1, top)] * 202 + [0]
        self.same(colours.row_exit(6, row, every[-1]), amounts.fraction(-202, top))
