"""Calls of all functions of the package with arguments that are right, everything that may be a list being a list."""

from mergerates import (
    again, amounts, both, breaking, chances, colouring, colours, desks, fair, firsts, halves, joins, leaving, likejoins,
    likeness, listings, lotrows, means, missing, nesting, numbers, onward, partings, polynomials, rows, runs, seen,
    serving, splits, steady, stretches, tables, telling, together, tracing, trials, twins, unseen,
)
from mergerates.worlds import World, reached

WORLD = World(3, [((0, 1, 2), (0, 0, 1), 2), ((0, 1, 2), (0, 0, 0), 1), ((0, 0, 1), (0, 0, 0), 4)])
FAMILY = [[0, 1, 2], [0, 0, 1]]
CLOCK = leaving.Clock(WORLD, FAMILY)

EARLY_CALLS = (
    (amounts.fraction, {"top": 6, "bottom": 4}), (amounts.plus, {"f": (1, 2), "g": 1}),
    (amounts.minus, {"f": (1, 2), "g": 1}), (amounts.multiply, {"f": (1, 2), "g": 3}),
    (amounts.over, {"f": (1, 2), "g": 3}), (amounts.compare, {"f": (1, 2), "g": 3}),
    (amounts.power, {"f": (1, 2), "k": 3}), (amounts.total, {"rest": [1, (1, 2), -4]}),
    (amounts.shown, {"f": (1, 2)}),
    (partings.singles, {"n": 3}), (partings.whole, {"n": 3}), (partings.lot_parting, {"lot": [2, 0], "n": 4}),
    (partings.parting_of, {"marks": [4, 2, 4]}), (partings.partings, {"n": 4}),
    (partings.count_of, {"p": [0, 1, 0]}), (partings.blocks_of, {"p": [0, 1, 0]}),
    (partings.shape_of, {"p": [0, 1, 0]}), (partings.touched, {"p": [0, 1, 0]}),
    (partings.together, {"p": [0, 1, 0], "a": 2, "b": 0}), (partings.finer, {"p": [0, 1, 2], "r": [0, 1, 0]}),
    (partings.join, {"p": [0, 1, 1], "r": [0, 1, 0]}), (partings.meet, {"p": [0, 0, 0], "r": [0, 1, 0]}),
    (partings.join_all, {"p": [0, 1, 1]}), (partings.trace, {"p": [0, 1, 1], "lot": [2, 0]}),
    (partings.seen_from, {"p": [0, 1, 1], "r": [0, 0, 0]}), (partings.lifted, {"p": [0, 1, 1], "x": [0, 0]}),
    (partings.renamed, {"p": [0, 1, 1], "names": [2, 0, 1]}), (partings.coarser_than, {"p": [0, 1, 1]}),
    (tables.mu, {"p": [0, 1, 2], "r": [0, 1, 1]}), (tables.sums_below, {"n": 2, "table": [(1, 2), 3]}),
    (tables.sums_above, {"n": 2, "table": [(1, 2), 3]}), (tables.told_below, {"n": 2, "table": [(1, 2), 3]}),
    (tables.told_above, {"n": 2, "table": [(1, 2), 3]}), (tables.counts_by_touch, {"n": 4}),
    (tables.without_alone, {"k": 4}), (tables.colour_count, {"p": [0, 1, 0], "k": 3}),
    (tracing.goes_through, {"rest": [[0, 1, 1], [0, 1, 0]], "lot": [1, 0]}),
    (tracing.broken_link, {"rest": [[0, 1, 1], [0, 1, 0]], "lot": [1, 0]}),
    (WORLD, {"p": [0, 1, 2], "r": [0, 0, 1]}), (WORLD.total_from, {"p": [0, 1, 2]}),
    (WORLD.from_here, {"p": [0, 1, 2]}), (WORLD.is_end, {"p": [0, 1, 2]}), (WORLD.row_at, {"p": [0, 1, 2]}),
    (WORLD.exit_from, {"p": [0, 1, 2], "t": [0, 0, 1]}), (WORLD.first_rates, {}), (WORLD.lines, {}),
    (World.line_of, {"move": [[0, 1, 2], [0, 0, 1], 2]}), (reached, {"world": WORLD, "start": [0, 1, 2]}),
    (runs.stays, {"world": WORLD, "start": [0, 1, 2]}), (runs.meets, {"world": WORLD, "start": [0, 0, 1]}),
    (runs.chain_chance, {"world": WORLD, "chain": [[0, 1, 2], [0, 0, 1]]}),
    (leaving.exits, {"world": WORLD, "family": FAMILY}), (leaving.memoryless, {"world": WORLD, "family": FAMILY}),
    (leaving.leaving_time, {"world": WORLD, "family": FAMILY, "start": [0, 0, 1]}),
    (CLOCK, {"p": [0, 1, 2]}), (CLOCK.bounds, {"p": [0, 1, 2]}), (CLOCK.level, {}),
    (likeness.factor_at, {"world": WORLD, "other": WORLD * 2, "p": [0, 1, 2]}),
    (likeness.unlike_chain, {"world": WORLD, "other": WORLD + World(3, [((0, 0, 1), (0, 0, 0), 1)])}),
    (likeness.unlike_chain, {"world": WORLD, "other": World(3)}),
    (likeness.same_chains, {"world": WORLD, "other": WORLD}),
    (steady.finer_than, {"t": [0, 0, 1]}), (steady.is_steady, {"world": WORLD, "t": [0, 0, 1]}),
    (steady.unsteady_pair, {"world": WORLD, "t": [0, 0, 1]}), (steady.steady_partings, {"world": WORLD}),
    (steady.steady_to, {"world": WORLD}),
    (steady.held_time, {"world": WORLD, "t": [0, 0, 1], "start": [0, 1, 2]}),
    (steady.breaking_table, {"world": WORLD}),
    (colours.row_exit, {"b": 3, "row": [1, (1, 2), 0, -3, 0], "t": [0, 0, 1]}),
    (colours.alike_to_colours, {"b": 3, "row": [2, 0, 0, 0, 0], "other": [0, 1, 1, 1, 0], "q": 2}),
    (colours.unlike_colouring, {"b": 3, "row": [2, 0, 0, 0, 0], "other": [0, 1, 1, 1, 0], "q": 3}),
    (colours.seen_to, {"b": 3, "row": [1, (1, 2), 0, -3, 0], "q": 2}), (colours.unseen_rows, {"b": 4, "q": 2}),
    (likejoins.joined_row, {"world": WORLD, "p": [0, 0, 1]}),
    (likejoins.like_joins_at, {"world": WORLD, "p": [0, 0, 1]}),
    (likejoins.joins_here, {"world": WORLD, "p": [0, 0, 1], "q": 2}), (likejoins.least_colours, {"world": WORLD}),
    (likejoins.is_one_lot, {"world": WORLD}), (likejoins.not_one_lot, {"world": WORLD}),
    (seen.seen_world, {"world": WORLD, "p": [0, 0, 1]}), (seen.below_world, {"world": WORLD, "t": [0, 0, 1]}),
    (seen.renamed_world, {"world": WORLD, "names": [2, 0, 1]}), (likejoins.first_joins, {"world": WORLD}),
)

JOINS = joins.Joins.of_pairs(3, [(0, 1, 1), (1, 2, 1)])
POLY = polynomials.Poly([(1, 2), (2, -1)])
CHANCES = missing.chances_of(3, [((0, 1, 1), (1, 2)), ((0, 0, 1), (1, 3))])
PART = missing.chances_of(3, [((0, 1, 1), (1, 2))])

JOIN_CALLS = (
    (joins.Joins, {"size": 3, "weights": [1, 0, 2, 0, 0]}),
    (joins.Joins.of_lots, {"size": 4, "lots": [[[2, 0], 3], [[0, 1, 2], 1]]}),
    (joins.Joins.of_pairs, {"size": 4, "pairs": [[2, 0, 3], [0, 1, 1]]}),
    (JOINS.strokes, {}), (JOINS.breaking, {"t": [0, 0, 1]}), (JOINS.seen_joins, {"p": [0, 0, 1]}),
    (JOINS.under, {"t": [0, 0, 1]}), (JOINS.without, {"x": [0, 0, 1]}),
    (joins.joins_of, {"world": World(3, JOINS.moves)}),
    (breaking.breaking_rates, {"j": JOINS}), (breaking.weights_from, {"n": 3, "table": [0, 1, (1, 2), 1, 2]}),
    (breaking.table_comes, {"n": 3, "table": [0, 1, 1, 1, 2]}),
    (breaking.wanting_at, {"n": 3, "table": [0, 1, 1, 1, 2]}),
    (means.time_below, {"j": JOINS, "t": [0, 0, 1]}), (means.stays_by_sums, {"j": JOINS}),
    (means.stay_between, {"j": JOINS, "p": [0, 1, 2], "t": [0, 0, 1]}), (means.last_chances, {"j": JOINS}),
    (means.question_time, {"j": JOINS, "r": [0, 1, 0]}), (means.whole_time, {"j": JOINS}),
    (means.surely_met, {"j": JOINS}),
    (telling.weights_from_stays, {"n": 3, "table": [None, (1, 2), 0, (1, 2), (1, 2)]}),
    (telling.stays_come, {"n": 3, "table": [None, (1, 2), 0, (1, 2), (1, 2)]}),
    (telling.meets_to_breaking, {"n": 3, "table": [1, (1, 2), 0, (1, 2), 1]}),
    (telling.meets_come, {"n": 3, "table": [1, (1, 2), 0, (1, 2), 1]}),
    (telling.one_factor, {"j": JOINS, "other": joins.Joins(3, JOINS.weights, times=2)}),
    (polynomials.Poly, {"terms": [[2, -1], [1, 2]]}), (polynomials.Poly.term, {"exponent": 2, "coefficient": 3}),
    (POLY, {"u": (1, 2)}), (POLY.mean, {}), (POLY.at_one, {}),
    (polynomials.below_poly, {"j": JOINS, "t": [0, 0, 1]}), (polynomials.chance_polys, {"j": JOINS}),
    (polynomials.open_poly, {"j": JOINS, "r": [0, 1, 0]}),
    (polynomials.both_open_poly, {"j": JOINS, "r": [0, 1, 0], "s": [0, 0, 1]}),
    (chances.Chances, {"size": 2, "table": [(1, 3), (2, 3)]}), (CHANCES.at, {"t": [0, 0, 1]}),
    (CHANCES.below, {"t": [0, 0, 1]}), (CHANCES.above, {"r": [0, 0, 1]}), (CHANCES.trace_on, {"lot": [2, 0]}),
    (CHANCES.inside, {"t": [0, 0, 1]}), (CHANCES.joined_by, {"x": [0, 0, 1]}), (CHANCES.repeated, {"k": 2}),
    (chances.one_time, {"j": JOINS, "u": (1, 2)}),
    (missing.chances_of, {"size": 3, "strokes": [[[0, 1, 1], (1, 2)], [[0, 0, 1], 1]]}),
    (missing.misses, {"chances": CHANCES}), (missing.comes_of_strokes, {"chances": CHANCES}),
    (missing.strokes_of, {"chances": CHANCES}), (missing.quotient, {"chances": CHANCES, "other": PART}),
    (missing.divides, {"other": PART, "chances": CHANCES}),
    (missing.divides_by_strokes, {"other": PART, "chances": CHANCES}),
)

STROKE = {"j": JOINS, "x": [0, 0, 1], "r": [0, 1, 0]}
TWO = {"j": JOINS, "r": [0, 1, 0], "s": [0, 0, 1]}
SIDES = {"j": JOINS, "side": [2], "other": [1, 0]}
REST = {"j": JOINS, "lot": [2, 1]}

LATE_CALLS = (
    (colouring.colour_sum, {"chances": CHANCES, "k": 3}), (colouring.by_colourings, {"chances": CHANCES, "k": 3}),
    (colouring.joined_sum, {"chances": CHANCES}),
    (splits.splits_of, {"lot": [4, 1, 0]}), (splits.breaks, SIDES),
    (splits.extensions, {"n": 4, "side": [2], "other": [0]}), (splits.least_extension, SIDES),
    (splits.apart_poly, SIDES), (splits.memory_free, SIDES),
    (again.stays_joins, REST), (again.failing_strokes, {"j": JOINS, "lot": [2, 0]}), (again.rest_joins, REST),
    (again.may_leave, {"j": JOINS, "z": 1}), (again.leavable, {"j": JOINS}),
    (again.traced_chances, {"j": JOINS, "lot": [2, 0], "u": (1, 2)}),
    (nesting.nest, {"p": [0, 0, 1], "r": [0, 1, 1]}), (nesting.union_is_parting, {"p": [0, 0, 1], "r": [0, 1, 1]}),
    (nesting.unnested, {"j": JOINS}), (nesting.nested, {"j": JOINS}), (nesting.meeting_rates, {"j": JOINS}),
    (nesting.lots_from_rates, {"table": [[None, 3, 1], [3, None, 1], [1, 1, None]]}),
    (serving.gatherings, {"j": JOINS}), (serving.serves, STROKE), (serving.served_at, STROKE),
    (serving.servers, {"j": JOINS, "r": [0, 1, 0]}), (serving.both_served, TWO), (serving.closing_at_once, TWO),
    (serving.chance_at_once, TWO),
    (together.closed_chance, {"j": JOINS, "r": [0, 1, 0], "u": (1, 2)}),
    (together.both_closed, {**TWO, "u": (1, 2)}), (together.covariance, {**TWO, "u": (1, 2)}),
    (together.independent, TWO), (together.lots_independent, {"j": JOINS, "lots": [[2, 0], [1]]}),
    (together.sharing_stroke, {"j": JOINS, "lots": [[2, 0], [1]]}),
    (together.together_chances, {"j": JOINS, "lots": [[2, 0], [1]], "u": (1, 2)}), (together.first_time, TWO),
    (together.product_time, TWO), (together.parts_independent, {"j": JOINS, "t": [0, 0, 1]}),
    (together.way_between, {"j": JOINS, "a": 0, "b": 1, "c": 2, "d": 0}),
)

STRETCHES = stretches.Stretches(3, (1, 0, 0, 2, 0), (1, 0, 1, 3, 0))
COUNTS = rows.Counts(4, (1, 0, 2, 1))
ROW = [2, (1, 2), 0, -1, 0]
CUTS = {"n": 3, "numbers": [1, (1, 2), -3]}
COUNT_ROW = {"m": 4, "numbers": [1, (1, 2), 0, 3]}

ROW_CALLS = (
    (stretches.Stretches, {"size": 2, "lows": [1, 0], "highs": [2, 0]}),
    (STRETCHES.low_joins, {}), (STRETCHES.high_joins, {}), (STRETCHES.agrees, {"j": JOINS}), (STRETCHES.wide, {}),
    (stretches.closed_ends, {"stretches": STRETCHES, "r": [0, 0, 0], "u": (1, 2)}),
    (stretches.time_ends, {"stretches": STRETCHES, "r": [0, 0, 0]}),
    (stretches.ends_unlike, {"stretches": STRETCHES, "r": [0, 0, 0]}),
    (halves.cuts, {"n": 3}), (halves.even_lots, {"n": 4}), (halves.even_at, {"x": [0, 1, 0], "lot": [2, 0]}),
    (halves.half, {"n": 3, "row": ROW, "lot": [2, 0]}), (halves.halves, {"n": 3, "row": ROW}),
    (halves.cut_rates, {"n": 3, "row": ROW}), (halves.cuts_from_halves, CUTS), (halves.halves_from_cuts, CUTS),
    (twins.twin, {"n": 3, "row": ROW}), (twins.twin_from_cuts, CUTS), (twins.twin_number, {"size": 5, "part": 2}),
    (twins.has_true_twin, {"n": 3, "row": ROW}), (twins.same_to_two, {"n": 3, "row": ROW, "other": [0] * 5}),
    (lotrows.lot_row, {"n": 3, "lots": [[[2, 0], (1, 2)], [[0, 1, 2], -1]]}),
    (lotrows.inside_rates, {"n": 3, "row": ROW}), (lotrows.lots_from_exits, {"n": 3, "exits": [0, 2, 3, (1, 2), 3]}),
    (lotrows.triangle, {"first": 1, "second": (1, 2), "third": 3}),
    (lotrows.from_triangle, {"first": 1, "second": (1, 2), "third": 3}),
    (rows.shapes, {"m": 4}), (rows.spread, COUNT_ROW), (rows.numbers_of, {"m": 3, "row": [1, 2, 2, 2, 0]}),
    (rows.trace_row, {"b": 3, "row": ROW, "lot": [2, 0]}), (rows.trace_numbers, {**COUNT_ROW, "k": 3}),
    (rows.lots_numbers, {"m": 4, "rates": [1, (1, 2), 0]}), (rows.row_total, COUNT_ROW), (rows.totals, COUNT_ROW),
    (rows.Counts, {"size": 3, "numbers": [1, 2]}), (COUNTS.numbers_at, {"b": 3}),
    (fair.going, {"world": WORLD, "lot": [1, 0], "p": [0, 1, 2]}), (fair.is_fair, {"world": COUNTS, "m": 2}),
    (fair.fair_to, {"world": COUNTS}), (fair.unfair_at, {"world": WORLD, "m": 2}),
    (fair.row_seen, {"world": COUNTS, "m": 3}), (fair.pair_rate, {"world": COUNTS}),
    (unseen.alike_to_names, {"b": 3, "row": ROW, "other": [0] * 5, "m": 2}),
    (unseen.unseen_by_names, {"b": 4, "m": 2}), (unseen.lots_unseen, {"b": 4, "m": 2}),
    (unseen.names_matter, {"world": WORLD, "p": [0, 1, 2]}),
)

DESK = desks.Desk(WORLD)
DESK.take_times(2)
TWO_DEEDS = [["drop", [[0, 0, 1]]], ["take_times", [3]]]
LOTS_ROW = {"m": 4, "numbers": [3, 0, 1, (1, 2)], "k": 5}
FIVE = rows.Counts(5, (0, 0, 1, 0, 2, 0))

LAST_CALLS = (
    (onward.next_stretch, {"rates": [3, (1, 2), 2]}), (onward.next_rates, {"rates": [3, (1, 2), 2], "z": (1, 3)}),
    (onward.goes_on, LOTS_ROW), (onward.refusal, {"m": 4, "numbers": [0, 1, 0, 0], "k": 5}),
    (onward.total_ends, LOTS_ROW),
    (firsts.pair_time, {"world": WORLD, "a": 2, "b": 0, "start": [0, 0, 1]}),
    (firsts.first_meeting, {"world": WORLD, "pairs": [[2, 0], [0, 1]]}),
    (firsts.apart_time, {"world": WORLD, "lot": [2, 0, 1]}), (firsts.lone_sums, {"world": WORLD}),
    (firsts.three_first, {"world": FIVE, "a": 4, "b": 0, "c": 1, "d": 2}),
    (firsts.joins_all, {"world": WORLD, "cut": [0, 0, 1]}),
    (both.all_at_once, {"world": WORLD}), (both.by_number, {"j": JOINS}),
    (both.number_weights, {"n": 3, "numbers": [0, 2, (5, 2)]}), (both.numbers_come, {"n": 3, "numbers": [0, 2, (5, 2)]}),
    (both.is_by_counts, {"world": COUNTS}),
    (numbers.number_rates, {"world": WORLD, "p": [0, 1, 2]}), (numbers.number_memoryless, {"world": WORLD}),
    (numbers.number_pair, {"world": World(3, JOINS.moves) + WORLD}), (numbers.pairs_kind, {"j": JOINS}),
    (numbers.number_stays, {"world": WORLD}),
    (DESK.now, {}), (DESK.deeds, {}), (DESK.what_if, {"deeds": TWO_DEEDS}),
    (trials.report, {"world": WORLD}), (trials.tried, {"desk": DESK, "deeds": TWO_DEEDS}),
    (trials.compared, {"world": WORLD, "other": JOINS}),
    (listings.listing, {"world": WORLD}), (listings.chances_listing, {"chances": CHANCES}),
)

CALLS = (*EARLY_CALLS, *JOIN_CALLS, *LATE_CALLS, *ROW_CALLS, *LAST_CALLS)

# The calls that return a list; all others return no list.
LISTS = (
    partings.partings, partings.coarser_than, WORLD.from_here, reached, steady.finer_than, steady.steady_partings,
    colours.unseen_rows, JOINS.strokes, means.surely_met, polynomials.chance_polys, missing.strokes_of,
    splits.splits_of, splits.breaks, splits.extensions, nesting.meeting_rates, nesting.lots_from_rates,
    serving.gatherings, serving.servers, serving.both_served, serving.closing_at_once, together.together_chances,
    STRETCHES.wide, halves.cuts, halves.even_lots, rows.shapes, fair.going, unseen.unseen_by_names, unseen.lots_unseen,
)
