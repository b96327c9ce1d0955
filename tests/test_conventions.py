"""[0.1] to [0.5]: what holds of all functions."""

import copy

from mergerates import (
    again, amounts, both, breaking, chances, colouring, colours, fair, firsts, halves, leaving, likejoins, likeness,
    lotrows, means, missing, nesting, numbers, onward, partings, polynomials, rows, runs, seen, serving, splits, steady,
    stretches, tables, telling, together, tracing, trials, twins, unseen,
)
from mergerates.chances import Chances
from mergerates.desks import Desk
from mergerates.errors import (
    BadLot, BadNumber, BadParting, BadTable, BadTriple, NotFair, NotFiner, NotInside, NotJoins, NotOneLot, OtherSize,
    TooMany,
)
from mergerates.joins import Joins
from mergerates.polynomials import Poly
from mergerates.rows import Counts
from mergerates.stretches import Stretches
from mergerates.worlds import World, reached
from tests.calls import CALLS, CHANCES, CLOCK, DESK, JOINS, LISTS, POLY, STRETCHES, WORLD
from tests.case import NO_AMOUNTS, Case


def frozen(value):
    """The same with tuples instead of lists."""
    return tuple(frozen(item) for item in value) if isinstance(value, list) else value


def plainly(value):
    """What repr tells of values and lists of them, also where they are objects of the package."""
    if isinstance(value, World):
        return (value.KIND, value.lines())
    if isinstance(value, Chances):
        return ("chances", value.size, value.table)
    if isinstance(value, Poly):
        return ("poly", value.terms)
    if isinstance(value, Stretches):
        return ("stretches", value.size, value.lows, value.highs)
    if isinstance(value, Desk):
        return ("desk", value.now().lines(), value.deeds(), value.note)
    if isinstance(value, (list, tuple)):
        return type(value)(plainly(item) for item in value)
    return value


class Conventions(Case):
    def test_0_3_by_position_by_name_lists_and_tuples(self):
        for call, named in CALLS:
            with self.subTest(call=call, named=named):
                answer = plainly(call(**named))
                self.same(plainly(call(*named.values())), answer)
                self.same(plainly(call(**{word: frozen(value) for word, value in named.items()})), answer)

    def test_0_3_arguments_are_not_changed(self):
        for call, named in CALLS:
            with self.subTest(call=call):
                before = plainly(list(copy.deepcopy(named).values()))
                call(**named)
                self.same(plainly(list(named.values())), before)

    def test_0_3_returned_lists_are_new(self):
        for call, named in CALLS:
            answer = call(**named)
            if isinstance(answer, list):
                expected = plainly(list(answer))
                answer.append("more")
                answer[0] = "other"
                self.same(plainly(call(**named)), expected)

    def test_0_3_what_is_a_list_and_what_a_tuple(self):
        for call, named in CALLS:
            with self.subTest(call=call):
                self.assertEqual(isinstance(call(**named), list), call in LISTS)

    def test_0_3_partings_are_returned_as_tuples(self):
        p = [0, 1, 1]
        for found in (partings.coarser_than(p)[-1], partings.join_all(p), reached(World(3), p)[0]):
            self.same(found, (0, 1, 1))

    def test_0_3_fractions(self):
        for wrong in NO_AMOUNTS:
            self.refuses(BadNumber, "f", amounts.plus, wrong, 0)
            self.refuses(BadTable, 0, amounts.total, [wrong])
            self.refuses(BadTable, 1, tables.sums_below, 2, (0, wrong))

    def test_0_3_true_is_no_integer(self):
        self.refuses(BadNumber, "n", partings.singles, True)
        self.refuses(BadNumber, "k", tables.without_alone, False)
        self.refuses(BadParting, 0, partings.count_of, (False,))
        self.refuses(BadLot, 0, partings.trace, (0, 1), (True,))
        self.refuses(BadTable, 0, World, 2, [((0, 1), (0, 0), True)])

    def test_0_3_order(self):
        self.same((0, 1) < (0, 1, 0), True)
        self.same(list(partings.lots_of(3, 2)), [(0, 1), (0, 2), (1, 2)])
        self.same(partings.partings(3), [(0, 0, 0), (0, 0, 1), (0, 1, 0), (0, 1, 1), (0, 1, 2)])

    def test_0_4_which_error_is_first(self):
        bad, other, lot = (0, 2), (0, 1, 2, 3), (5, 5)
        for kind, told, call in (
            (BadNumber, "n", lambda: partings.lot_parting(lot, 9)),
            (BadNumber, "k", lambda: tables.colour_count(bad, -1)),
            (BadNumber, "n", lambda: tables.told_above(0, None)),
            (BadParting, 1, lambda: partings.join(bad, other)),
            (BadParting, 1, lambda: partings.join(other, bad)),
            (BadParting, 1, lambda: partings.join_all((0, 1), other, bad)),
            (BadParting, 1, lambda: partings.trace(bad, lot)),
            (BadParting, 1, lambda: partings.renamed(bad, lot)),
            (BadParting, 1, lambda: partings.together(bad, 9, 9)),
            (BadParting, 1, lambda: tables.mu(other, bad)),
            (BadParting, 1, lambda: WORLD.exit_from(other, bad)),
            (BadParting, 1, lambda: tracing.goes_through([other, bad], lot)),
            (OtherSize, 4, lambda: partings.seen_from((0, 0), other)),
            (OtherSize, 4, lambda: tables.mu((0, 0), other)),
            (OtherSize, 4, lambda: WORLD.exit_from((0, 0, 0), other)),
            (OtherSize, 4, lambda: tracing.broken_link([(0, 1), other] * 40, lot)),
            (BadLot, 0, lambda: tracing.broken_link([(0, 1)] * 80, lot)),
            (TooMany, 80, lambda: tracing.broken_link([(0, 1)] * 80, (1, 0))),
            (NotFiner, -1, lambda: WORLD.exit_from((0, 0, 0), (0, 1, 2))),
        ):
            self.refuses(kind, told, call)

    def test_0_4_which_error_is_first_in_worlds(self):
        bad, other, least, last = (0, 2), (0, 1, 2, 3), (0, 0, 0), (0, 1, 2)
        for kind, told, call in (
            (BadParting, 1, lambda: runs.stays(WORLD, other, inside=bad)),
            (BadParting, 1, lambda: runs.stays(WORLD, bad, inside=(1,))),
            (OtherSize, 4, lambda: runs.stays(WORLD, least, inside=other)),
            (NotFiner, -1, lambda: runs.stays(WORLD, least, inside=last)),
            (BadParting, 2, lambda: runs.chain_chance(WORLD, [least, other, bad])),
            (OtherSize, 4, lambda: runs.chain_chance(WORLD, [least, last, other])),
            (NotFiner, 1, lambda: runs.chain_chance(WORLD, [least, last, last])),
            (BadParting, 1, lambda: leaving.leaving_time(WORLD, [other, bad], (1,))),
            (BadParting, 0, lambda: leaving.leaving_time(WORLD, [other, last], (1,))),
            (OtherSize, 4, lambda: leaving.leaving_time(WORLD, [last, other], (0,))),
            (OtherSize, 1, lambda: leaving.leaving_time(WORLD, [last], (0,))),
            (NotInside, -1, lambda: leaving.leaving_time(WORLD, [last], least)),
            (BadParting, 1, lambda: leaving.Clock(WORLD, [other, other])),
            (OtherSize, 4, lambda: leaving.Clock(WORLD, [last, other])),
            (BadParting, 1, lambda: CLOCK(bad)), (OtherSize, 4, lambda: CLOCK(other)),
            (NotInside, -1, lambda: CLOCK(least)), (NotInside, -1, lambda: CLOCK.bounds(least)),
            (BadParting, 1, lambda: likeness.factor_at(WORLD, World(2), bad)),
            (OtherSize, 2, lambda: likeness.factor_at(WORLD, World(2), other)),
            (OtherSize, 4, lambda: likeness.factor_at(WORLD, WORLD, other)),
            (OtherSize, 2, lambda: likeness.same_chains(WORLD, World(2))),
            (BadLot, 1, lambda: seen.renamed_world(WORLD, (0, 0))),
            (BadLot, -1, lambda: seen.renamed_world(WORLD, (0, 1))),
            (BadParting, 1, lambda: steady.held_time(WORLD, other, bad)),
            (OtherSize, 4, lambda: steady.held_time(WORLD, least, other)),
            (NotFiner, -1, lambda: steady.held_time(WORLD, last, least)),
            (BadNumber, "b", lambda: colours.row_exit(0, None, bad)),
            (BadParting, 1, lambda: colours.row_exit(3, None, bad)),
            (OtherSize, 4, lambda: colours.row_exit(3, None, other)),
            (BadTable, -1, lambda: colours.row_exit(3, None, least)),
            (BadNumber, "b", lambda: colours.alike_to_colours(7, None, None, 9)),
            (BadNumber, "q", lambda: colours.alike_to_colours(3, None, None, 4)),
            (BadTable, 0, lambda: colours.alike_to_colours(1, (5,), None, 1)),
            (BadTable, -1, lambda: colours.alike_to_colours(1, (0,), None, 1)),
            (BadNumber, "q", lambda: likejoins.joins_here(WORLD, bad, 4)),
            (BadParting, 1, lambda: likejoins.joins_here(WORLD, bad, 3)),
            (OtherSize, 4, lambda: likejoins.joins_here(WORLD, other, 3)),
        ):
            self.refuses(kind, told, call)

    def test_0_4_which_error_is_first_in_join_worlds(self):
        bad, other, lot = (0, 2), (0, 1, 2, 3), (5, 5)
        small, great = Chances(2, (1, 0)), Joins(3, (401, 0, 0, 0, 0))
        for kind, told, call in (
            (BadNumber, "size", lambda: Joins(0, None, times=-1)), (BadNumber, "times", lambda: Joins(3, 5, times=-1)),
            (BadTable, -1, lambda: Joins(2, (None,))), (BadTable, 0, lambda: Joins(2, (None, 1))),
            (BadLot, 0, lambda: Joins.of_lots(3, [(lot, -1), None])),
            (BadTable, 0, lambda: Joins.of_lots(3, [((0,), -1), (lot, 1)])),
            (BadLot, 0, lambda: Joins.of_pairs(3, [(1, 1, -1), None])),
            (BadTable, 0, lambda: Joins.of_pairs(3, [(1, 0, -1), (1, 1, 1)])),
            (BadNumber, "n", lambda: breaking.wanting_at(9, None)),
            (BadTable, -1, lambda: breaking.weights_from(2, (None,))),
            (BadParting, 1, lambda: means.stay_between(JOINS, other, bad)),
            (OtherSize, 4, lambda: means.stay_between(JOINS, other, (0,))),
            (BadNumber, "n", lambda: telling.meets_come(1, (5,))),
            (BadTable, 0, lambda: telling.stays_come(2, (-1, 0))), (BadTable, 1, lambda: telling.stays_come(2, (5, 0))),
            (BadTable, 0, lambda: telling.meets_to_breaking(2, (2, 0))),
            (BadNumber, "u", lambda: Poly([(401, 1)])(None)), (TooMany, 401, lambda: Poly([(401, 1)])(0)),
            (BadParting, 1, lambda: polynomials.both_open_poly(JOINS, other, bad)),
            (OtherSize, 4, lambda: polynomials.both_open_poly(JOINS, other, (0,))),
            (BadNumber, "size", lambda: Chances(0, None)), (BadTable, -1, lambda: Chances(2, (None,))),
            (BadTable, 1, lambda: Chances(2, (5, None))), (BadTable, -1, lambda: Chances(2, (5, 0))),
            (BadParting, 1, lambda: small.inside((0, 2, 1))), (OtherSize, 3, lambda: small.inside((0, 1, 2))),
            (NotInside, -1, lambda: small.inside((0, 1))),
            (BadNumber, "u", lambda: chances.one_time(great, 0)), (TooMany, 401, lambda: chances.one_time(great, 1)),
            (BadNumber, "size", lambda: missing.chances_of(0, None)),
            (BadTable, 0, lambda: missing.chances_of(3, [(bad, 2), None])),
            (BadParting, 0, lambda: missing.chances_of(3, [((0, 1), 1), None])),
            (OtherSize, 2, lambda: missing.chances_of(3, [((0, 0), 1), None])),
            (OtherSize, 2, lambda: missing.quotient(CHANCES, small)),
            (OtherSize, 3, lambda: missing.divides(small, CHANCES)),
            (NotInside, -1, lambda: missing.divides_by_strokes(small, small)),
            (NotInside, -1, lambda: missing.misses(small)), (NotJoins, (0, 1), lambda: missing.strokes_of(small)),
        ):
            self.refuses(kind, told, call)

    def test_0_4_which_error_is_first_in_questions(self):
        bad, other, lot, none = (0, 2), (0, 1, 2, 3), (5, 5), Joins(3, (0,) * 5)
        great = Joins(3, (401, 0, 0, 0, 0))
        lots = [((None, 3, 1), (3, None, 2), (1, 2, None)), ((None, 3, 1), (3, None, 2), (1, 3, None))]
        for kind, told, call in (
            (BadNumber, "k", lambda: colouring.by_colourings(CHANCES, 7)),
            (BadLot, 0, lambda: splits.breaks(JOINS, lot[:1], ())),
            (BadLot, 1, lambda: splits.breaks(JOINS, (0,), (0, 0))),
            (BadNumber, "n", lambda: splits.extensions(0, None, None)),
            (BadLot, 1, lambda: splits.memory_free(JOINS, (0, 1), (1,))),
            (BadLot, 0, lambda: again.failing_strokes(Joins(6, [1] * 202 + [0]), (9, 9))),
            (NotJoins, (0, 0, 0), lambda: again.rest_joins(JOINS, (0, 2))),
            (BadLot, 0, lambda: again.may_leave(Joins(1, (0,)), 1)),
            (BadLot, -1, lambda: again.may_leave(Joins(1, (0,)), 0)),
            (BadNumber, "u", lambda: again.traced_chances(great, lot, 0)),
            (BadLot, 0, lambda: again.traced_chances(great, lot, 1)),
            (TooMany, 401, lambda: again.traced_chances(great, (0,), 1)),
            (BadParting, 1, lambda: nesting.nest(other, bad)), (OtherSize, 4, lambda: nesting.nest((0,), other)),
            (BadTriple, (0, 1, 2), lambda: nesting.lots_from_rates(lots[0])),
            (BadTable, 2, lambda: nesting.lots_from_rates(lots[1])),
            (BadParting, 1, lambda: serving.gatherings(none, without=bad)),
            (OtherSize, 4, lambda: serving.gatherings(none, without=other)),
            (NotInside, -1, lambda: serving.gatherings(none, without=(0, 0, 0))),
            (BadParting, 1, lambda: serving.serves(none, other, bad)),
            (OtherSize, 4, lambda: serving.serves(none, (0, 0, 0), other)),
            (NotInside, -1, lambda: serving.served_at(none, (0, 0, 0), (0, 0, 0))),
            (BadParting, 1, lambda: serving.both_served(none, other, bad)),
            (OtherSize, 4, lambda: serving.chance_at_once(none, other, (0,))),
            (BadNumber, "u", lambda: together.both_closed(great, bad, bad, 0)),
            (BadParting, 1, lambda: together.both_closed(great, other, bad, 1)),
            (OtherSize, 4, lambda: together.covariance(great, (0, 0, 0), other, 1)),
            (TooMany, 401, lambda: together.covariance(great, (0, 0, 0), (0, 0, 0), 1)),
            (BadNumber, "u", lambda: together.together_chances(great, None, 0)),
            (BadLot, 0, lambda: together.together_chances(great, [lot, ()], 1)),
            (TooMany, 401, lambda: together.together_chances(great, [(0,)], 1)),
            (BadLot, 3, lambda: together.way_between(great, 0, 0, 0, 3)),
            (NotOneLot, (0, 0, 0), lambda: together.way_between(great, 0, 0, 0, 0)),
        ):
            self.refuses(kind, told, call)

    def test_0_4_which_error_is_first_in_rows(self):
        bad, other, lot = (0, 2), (0, 1, 2, 3), (5, 5)
        great = Stretches(3, (0,) * 5, (401, 0, 0, 0, 0))
        for kind, told, call in (
            (BadNumber, "size", lambda: Stretches(0, None, None)), (BadTable, -1, lambda: Stretches(2, None, (0, 5))),
            (BadTable, 1, lambda: Stretches(2, (0, 5), None)), (BadTable, 0, lambda: Stretches(2, (1, 0), (0, 5))),
            (BadNumber, "u", lambda: stretches.closed_ends(great, bad, 0)),
            (BadParting, 1, lambda: stretches.closed_ends(great, bad, 1)),
            (OtherSize, 4, lambda: stretches.closed_ends(great, other, 1)),
            (TooMany, 401, lambda: stretches.closed_ends(great, (0, 0, 0), 1)),
            (BadNumber, "n", lambda: halves.half(1, None, lot)), (BadLot, 0, lambda: halves.half(3, None, lot)),
            (BadLot, -1, lambda: halves.half(3, None, (0, 1, 2))), (BadTable, -1, lambda: halves.half(3, None, (0, 1))),
            (BadParting, 1, lambda: halves.even_at(bad, lot)), (BadLot, 0, lambda: halves.even_at((0, 1), lot)),
            (BadNumber, "n", lambda: halves.cuts_from_halves(7, None)),
            (BadNumber, "n", lambda: twins.same_to_two(1, None, None)),
            (BadTable, 1, lambda: twins.same_to_two(2, (0, 5), None)),
            (BadTable, -1, lambda: twins.same_to_two(2, (0, 0), None)),
            (BadNumber, "size", lambda: twins.twin_number(1, 1)), (BadNumber, "part", lambda: twins.twin_number(2, 1)),
            (BadNumber, "n", lambda: lotrows.lot_row(1, None)),
            (BadLot, 0, lambda: lotrows.lot_row(3, [(lot, None), None])),
            (BadTable, 0, lambda: lotrows.lot_row(3, [((0,), None), (lot, 1)])),
            (BadTable, 4, lambda: lotrows.inside_rates(3, (0, 0, 0, 0, 1))),
            (BadTable, 14, lambda: lotrows.inside_rates(4, [1] * 15)),
            (NotOneLot, (0, 0, 1, 1), lambda: lotrows.inside_rates(4, [1] * 14 + [0])),
            (BadNumber, "second", lambda: lotrows.triangle(1, None, None)),
            (BadNumber, "m", lambda: rows.trace_numbers(1, None, 9)),
            (BadNumber, "k", lambda: rows.trace_numbers(3, None, 9)),
            (BadNumber, "b", lambda: rows.trace_row(0, None, lot)), (BadLot, 0, lambda: rows.trace_row(3, None, lot)),
            (BadNumber, "size", lambda: Counts(1, None, times=-1)),
            (BadNumber, "times", lambda: Counts(2, None, times=-1)), (BadTable, -1, lambda: Counts(3, (-1,))),
            (BadParting, 1, lambda: fair.going(WORLD, lot, bad)), (OtherSize, 4, lambda: fair.going(WORLD, lot, other)),
            (BadLot, 0, lambda: fair.going(WORLD, lot, (0, 0, 0))), (BadNumber, "m", lambda: fair.row_seen(WORLD, 3)),
            (NotFair, (0, 1, 0), lambda: fair.row_seen(WORLD, 2)),
            (BadNumber, "b", lambda: unseen.alike_to_names(0, None, None, 0)),
            (BadNumber, "m", lambda: unseen.alike_to_names(2, None, None, 3)),
            (BadTable, 1, lambda: unseen.alike_to_names(2, (0, 5), None, 2)),
        ):
            self.refuses(kind, told, call)

    def test_0_4_which_error_is_first_in_the_last_modules(self):
        bad, other, lot, most = (0, 2), (0, 1, 2, 3), (5, 5), (0, 0, 0)
        desk = Desk(World(3, [((0, 0, 1), most, 4)]), most=1)
        full = Desk(World(3), most=1)
        full.take_times(1)
        for kind, told, call in (
            (BadNumber, "z", lambda: onward.next_rates(None, None)), (BadNumber, "m", lambda: onward.goes_on(1, None, 0)),
            (BadNumber, "k", lambda: onward.refusal(3, None, 3)), (BadTable, -1, lambda: onward.total_ends(3, None, 4)),
            (BadTable, 0, lambda: onward.goes_on(3, (-1, None), 4)),
            (BadParting, 1, lambda: firsts.pair_time(WORLD, 9, 9, bad)),
            (OtherSize, 4, lambda: firsts.pair_time(WORLD, 9, 9, other)),
            (BadLot, 0, lambda: firsts.pair_time(WORLD, 9, 9, most)),
            (BadLot, 1, lambda: firsts.pair_time(WORLD, 0, 0, most)),
            (BadLot, 0, lambda: firsts.first_meeting(WORLD, [lot, None])),
            (BadLot, 1, lambda: firsts.three_first(WORLD, 0, 0, 3, 4)),
            (BadNumber, "n", lambda: both.number_weights(0, None)), (BadTable, -1, lambda: both.numbers_come(2, (None,))),
            (BadParting, 1, lambda: numbers.number_rates(WORLD, bad)),
            (NotOneLot, most, lambda: numbers.pairs_kind(Joins(3, (1, 1, 2, 3, 0)))),
            (BadNumber, "rate", lambda: full.add_rate(bad, other, -1)),
            (BadParting, 1, lambda: full.add_rate(other, bad, 1)), (OtherSize, 4, lambda: full.add_rate(other, (0,), 1)),
            (NotFiner, -1, lambda: full.add_rate(most, most, 1)),
            (TooMany, 1, lambda: full.add_rate((0, 1, 2), most, 1)),
            (BadNumber, "weight", lambda: full.add_stroke(bad, -1)), (BadParting, 1, lambda: full.add_stroke(bad, 1)),
            (OtherSize, 4, lambda: full.add_stroke(other, 1)), (NotFiner, -1, lambda: full.add_stroke((0, 1, 2), 1)),
            (TooMany, 1, lambda: full.add_stroke(most, 1)), (BadNumber, "k", lambda: full.take_times(-1)),
            (BadLot, 0, lambda: full.glue(3, 3)), (BadLot, 1, lambda: full.glue(1, 1)),
            (NotJoins, (0, 0, 1), lambda: desk.leave(0)), (BadLot, 0, lambda: desk.leave(3)),
            (BadTable, 0, lambda: full.what_if([None, ("drop", (bad,))])),
            (BadParting, 1, lambda: full.what_if([("drop", (bad,)), None])),
            (TooMany, 1, lambda: full.what_if([("drop", (most,)), None])),
            (BadTable, 1, lambda: desk.what_if([("drop", (most,)), None])),
            (OtherSize, 2, lambda: trials.compared(WORLD, World(2))),
        ):
            self.refuses(kind, told, call)

    def test_0_4_refused_calls_leave_objects_as_they_are(self):
        before = plainly([JOINS, CHANCES, POLY, STRETCHES, DESK])
        self.refuses(BadLot, 1, DESK.glue, 0, 0)
        self.refuses(BadNumber, "text", DESK.note_down, None)
        self.refuses(BadTable, 1, DESK.what_if, [("take_times", (2,)), None])
        self.refuses(OtherSize, 2, STRETCHES.agrees, Joins(2, (1, 0)))
        self.refuses(OtherSize, 2, lambda: JOINS + Joins(2, (1, 0)))
        self.refuses(BadNumber, "k", lambda: JOINS * None)
        self.refuses(OtherSize, 2, JOINS.without, (0, 1))
        self.refuses(OtherSize, 2, lambda: CHANCES + Chances(2, (1, 0)))
        self.refuses(BadNumber, "k", CHANCES.repeated, 0)
        self.refuses(BadNumber, "u", POLY, None)
        self.same(plainly([JOINS, CHANCES, POLY, STRETCHES, DESK]), before)

    def test_0_4_a_refused_call_changes_nothing(self):
        before = (WORLD.size, WORLD.moves, WORLD.lines())
        self.refuses(OtherSize, 2, lambda: WORLD + World(2))
        self.refuses(BadNumber, "k", lambda: WORLD * -1)
        self.refuses(NotFiner, -1, WORLD.exit_from, (0, 0, 0), (0, 1, 2))
        self.same((WORLD.size, WORLD.moves, WORLD.lines()), before)

    def test_0_5_sizes_of_answers(self):
        top = 10 ** 40 - 1
        self.same(amounts.power((top, top - 1), 37), (top ** 37, (top - 1) ** 37))
        moves = [((0, 1), (0, 0), 10 ** 14)] * 2500
        self.same(World(2, moves).moves, (((0, 1), (0, 0), 2500 * 10 ** 14),))

    def test_0_5_sizes_of_rows(self):
        top = 10 ** 40 - 1
        row = [(place + 1, top - 1) if place % 2 else (1, top - place) for place in range(202)] + [0]
        row = [amounts.fraction(*number) if isinstance(number, tuple) else number for number in row]
        every = halves.cut_rates(6, row)
        self.same(halves.halves_from_cuts(6, every), halves.halves(6, row))
        self.same(halves.cut_rates(6, twins.twin(6, row)), every)
        v = [amounts.fraction(place + 1, top - place) for place in range(10)]
        self.same(rows.totals(6, v)[-1], amounts.total(rows.spread(6, v)))
        c = Counts(6, [10 ** 14] * 10)
        self.same([fair.fair_to(c), fair.pair_rate(c)], [5, sum(c.numbers_at(2))])
        j = Joins(6, [10 ** 14 - place for place in range(202)] + [0])
        self.same(stretches.time_ends(Stretches(6, j.weights, j.weights), (0,) * 6), (means.whole_time(j),) * 2)

    def test_0_5_sizes_of_last_modules(self):
        top = 10 ** 40 - 1
        v = [amounts.fraction(place + 1, top - place) for place in range(6)]
        found = onward.goes_on(5, v, 6)
        if found is None:
            self.assertIsNotNone(onward.refusal(5, v, 6))
        c = Counts(6, [10 ** 14 - place for place in range(10)])
        self.same(rows.trace_numbers(6, onward.goes_on(5, c.numbers_at(5), 6), 5),
                  tuple((number, 1) for number in c.numbers_at(5)))
        self.same(firsts.pair_time(c, 0, 5, partings.singles(6)), (1, fair.pair_rate(c)))
        self.same(firsts.apart_time(c, (0, 1, 2, 3, 4)), (1, amounts.total(rows.spread(5, c.numbers_at(5)))[0]))
        self.same(trials.report(c)[:4], (6, 2268, 1, 5))
        desk = Desk(c)
        desk.take_times(10 ** 14)
        desk.glue(0, 1)
        self.assertEqual(desk.now(), Counts(5, c.numbers_at(5), times=10 ** 14))

    def test_0_5_sizes_of_worlds(self):
        # All moves on six names at great rates, the same from each parting: the stays are told by few digits.
        every = partings.partings(6)
        moves = [(p, r, 10 ** 14 - partings.count_of(p)) for p in every for r in partings.coarser_than(p) if p != r]
        w = World(6, moves)
        many = {p: len(partings.coarser_than(p)) - 1 for p in every}
        met = dict(zip(every, runs.meets(w)))
        for p, time in zip(every, runs.stays(w)):
            if p == every[0]:
                self.same((time, met[p]), (None, (1, 1)))
            else:
                self.same(time, amounts.over(met[p], many[p] * (10 ** 14 - partings.count_of(p))))
        family = every[1:]
        self.same(leaving.leaving_time(w, family, every[-1]), amounts.total(runs.stays(w)[1:]))
        self.same(leaving.Clock(w, family).bounds(every[-1]), (10 ** 14 - 6, 10 ** 14 - 2))
        self.same(likeness.factor_at(w, w * 10 ** 14, every[-1]), (10 ** 14, 1))
        top = 10 ** 40 - 1
        row = [(-1, top)] * 202 + [0]
        self.same(colours.row_exit(6, row, every[-1]), amounts.fraction(-202, top))
