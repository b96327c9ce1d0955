"""The names and arguments that the interface lists: modules in their order, functions, methods of classes."""

# The modules in the order of the document; the two helpers are used by all but errors.
ORDER = ("errors", "checks", "labels", "amounts", "partings", "tables", "tracing",
         "worlds", "runs", "leaving", "likeness", "seen", "steady", "colours", "likejoins",
         "joins", "breaking", "means", "telling", "polynomials", "chances", "missing", "colouring",
         "splits", "again", "nesting", "serving", "together", "stretches", "halves", "twins", "lotrows",
         "rows", "fair", "unseen", "onward", "firsts", "both", "numbers", "desks", "trials", "listings")

FUNCTIONS = {
    "amounts": {
        "fraction": "(top, bottom=1)", "plus": "(f, g)", "minus": "(f, g)", "multiply": "(f, g)",
        "over": "(f, g)", "compare": "(f, g)", "power": "(f, k)", "total": "(rest)", "shown": "(f)",
    },
    "partings": {
        "singles": "(n)", "whole": "(n)", "lot_parting": "(lot, n)", "parting_of": "(marks)",
        "partings": "(n)", "count_of": "(p)", "blocks_of": "(p)", "shape_of": "(p)", "touched": "(p)",
        "together": "(p, a, b)", "finer": "(p, r)", "join": "(p, r)", "meet": "(p, r)",
        "join_all": "(p, *rest)", "trace": "(p, lot)", "seen_from": "(p, r)", "lifted": "(p, x)",
        "renamed": "(p, names)", "coarser_than": "(p)", "lots_of": "(n, size)",
    },
    "tables": {
        "mu": "(p, r)", "sums_below": "(n, table)", "sums_above": "(n, table)",
        "told_below": "(n, table)", "told_above": "(n, table)", "counts_by_touch": "(n)",
        "without_alone": "(k)", "colour_count": "(p, k)",
    },
    "tracing": {"goes_through": "(rest, lot)", "broken_link": "(rest, lot)"},
    "worlds": {"reached": "(world, start=None)"},
    "runs": {
        "stays": "(world, start=None, *, inside=None)", "meets": "(world, start=None)",
        "chains": "(world, start=None)", "chain_chance": "(world, chain)",
    },
    "leaving": {
        "exits": "(world, family)", "memoryless": "(world, family)", "leaving_time": "(world, family, start)",
    },
    "likeness": {
        "factor_at": "(world, other, p)", "unlike_chain": "(world, other)", "same_chains": "(world, other)",
    },
    "seen": {"seen_world": "(world, p)", "below_world": "(world, t)", "renamed_world": "(world, names)"},
    "steady": {
        "finer_than": "(t)", "is_steady": "(world, t)", "unsteady_pair": "(world, t)",
        "steady_partings": "(world)", "steady_to": "(world)", "held_time": "(world, t, start)",
        "breaking_table": "(world)",
    },
    "colours": {
        "row_exit": "(b, row, t)", "alike_to_colours": "(b, row, other, q)",
        "unlike_colouring": "(b, row, other, q)", "seen_to": "(b, row, q)", "unseen_rows": "(b, q)",
    },
    "likejoins": {
        "joined_row": "(world, p)", "like_joins_at": "(world, p)", "joins_here": "(world, p, q)",
        "first_joins": "(world)", "least_colours": "(world)", "is_one_lot": "(world)", "not_one_lot": "(world)",
    },
    "joins": {"joins_of": "(world)"},
    "breaking": {
        "breaking_rates": "(j)", "weights_from": "(n, table)", "table_comes": "(n, table)",
        "wanting_at": "(n, table)",
    },
    "means": {
        "time_below": "(j, t)", "stays_by_sums": "(j)", "stay_between": "(j, p, t)", "last_chances": "(j)",
        "question_time": "(j, r)", "whole_time": "(j)", "surely_met": "(j)",
    },
    "telling": {
        "weights_from_stays": "(n, table)", "stays_come": "(n, table)", "meets_to_breaking": "(n, table)",
        "meets_come": "(n, table)", "one_factor": "(j, other)",
    },
    "polynomials": {
        "below_poly": "(j, t)", "chance_polys": "(j)", "open_poly": "(j, r)", "both_open_poly": "(j, r, s)",
    },
    "chances": {"one_time": "(j, u)"},
    "missing": {
        "chances_of": "(size, strokes)", "misses": "(chances)", "comes_of_strokes": "(chances)",
        "strokes_of": "(chances)", "quotient": "(chances, other)", "divides": "(other, chances)",
        "divides_by_strokes": "(other, chances)",
    },
    "colouring": {
        "colour_sum": "(chances, k)", "by_colourings": "(chances, k)", "joined_sum": "(chances)",
    },
    "splits": {
        "splits_of": "(lot)", "breaks": "(j, side, other)", "extensions": "(n, side, other)",
        "least_extension": "(j, side, other)", "apart_poly": "(j, side, other)", "memory_free": "(j, side, other)",
    },
    "again": {
        "stays_joins": "(j, lot)", "failing_strokes": "(j, lot)", "rest_joins": "(j, lot)", "may_leave": "(j, z)",
        "leavable": "(j)", "traced_chances": "(j, lot, u)",
    },
    "nesting": {
        "nest": "(p, r)", "union_is_parting": "(p, r)", "unnested": "(j)", "nested": "(j)",
        "meeting_rates": "(j)", "lots_from_rates": "(table)",
    },
    "serving": {
        "gatherings": "(j, *, without=None)", "serves": "(j, x, r)", "served_at": "(j, x, r)", "servers": "(j, r)",
        "both_served": "(j, r, s)", "closing_at_once": "(j, r, s)", "chance_at_once": "(j, r, s)",
    },
    "together": {
        "closed_chance": "(j, r, u)", "both_closed": "(j, r, s, u)", "covariance": "(j, r, s, u)",
        "independent": "(j, r, s)", "lots_independent": "(j, lots)", "sharing_stroke": "(j, lots)",
        "together_chances": "(j, lots, u)", "first_time": "(j, r, s)", "product_time": "(j, r, s)",
        "parts_independent": "(j, t)", "way_between": "(j, a, b, c, d)",
    },
    "stretches": {
        "closed_ends": "(stretches, r, u)", "time_ends": "(stretches, r)", "ends_unlike": "(stretches, r)",
    },
    "halves": {
        "cuts": "(n)", "even_lots": "(n)", "even_at": "(x, lot)", "half": "(n, row, lot)", "halves": "(n, row)",
        "cut_rates": "(n, row)", "cuts_from_halves": "(n, numbers)", "halves_from_cuts": "(n, numbers)",
    },
    "twins": {
        "twin": "(n, row)", "twin_from_cuts": "(n, numbers)", "twin_number": "(size, part)",
        "has_true_twin": "(n, row)", "same_to_two": "(n, row, other)",
    },
    "lotrows": {
        "lot_row": "(n, lots)", "inside_rates": "(n, row)", "lots_from_exits": "(n, exits)",
        "triangle": "(first, second, third)", "from_triangle": "(first, second, third)",
    },
    "rows": {
        "shapes": "(m)", "spread": "(m, numbers)", "numbers_of": "(m, row)", "trace_row": "(b, row, lot)",
        "trace_numbers": "(m, numbers, k)", "lots_numbers": "(m, rates)", "row_total": "(m, numbers)",
        "totals": "(m, numbers)",
    },
    "fair": {
        "going": "(world, lot, p)", "is_fair": "(world, m)", "fair_to": "(world)", "unfair_at": "(world, m)",
        "row_seen": "(world, m)", "pair_rate": "(world)",
    },
    "unseen": {
        "alike_to_names": "(b, row, other, m)", "unseen_by_names": "(b, m)", "lots_unseen": "(b, m)",
        "names_matter": "(world, p)",
    },
    "onward": {
        "next_stretch": "(rates)", "next_rates": "(rates, z)", "goes_on": "(m, numbers, k)",
        "refusal": "(m, numbers, k)", "total_ends": "(m, numbers, k)",
    },
    "firsts": {
        "pair_time": "(world, a, b, start)", "first_meeting": "(world, pairs)", "apart_time": "(world, lot)",
        "lone_sums": "(world)", "three_first": "(world, a, b, c, d)", "joins_all": "(world, cut)",
    },
    "both": {
        "all_at_once": "(world)", "by_number": "(j)", "number_weights": "(n, numbers)",
        "numbers_come": "(n, numbers)", "is_by_counts": "(world)",
    },
    "numbers": {
        "number_rates": "(world, p)", "number_memoryless": "(world)", "number_pair": "(world)", "pairs_kind": "(j)",
        "number_stays": "(world)",
    },
    "trials": {"report": "(world)", "tried": "(desk, deeds)", "compared": "(world, other)"},
    "listings": {"listing": "(world)", "chances_listing": "(chances)"},
}

WORLD = {
    "__init__": "(self, size, moves=(), *, times=1)", "__call__": "(self, p, r)", "__iter__": "(self)",
    "__add__": "(self, other)", "__mul__": "(self, other)", "__eq__": "(self, other)",
    "total_from": "(self, p)", "from_here": "(self, p)", "is_end": "(self, p)",
    "first_rates": "(self)", "row_at": "(self, p)", "exit_from": "(self, p, t)", "lines": "(self)",
}

CLOCK = {"__init__": "(self, world, family)", "__call__": "(self, p)", "level": "(self)", "bounds": "(self, p)"}

JOINS = {
    "__init__": "(self, size, weights, *, times=1)", "strokes": "(self)", "breaking": "(self, t)",
    "seen_joins": "(self, p)", "under": "(self, t)", "without": "(self, x)",
}

POLY = {
    "__init__": "(self, terms=())", "__add__": "(self, other)", "__sub__": "(self, other)",
    "__mul__": "(self, other)", "__neg__": "(self)", "__eq__": "(self, other)", "__bool__": "(self)",
    "__iter__": "(self)", "__call__": "(self, u)", "mean": "(self)", "at_one": "(self)",
}

CHANCES = {
    "__init__": "(self, size, table)", "__iter__": "(self)", "__add__": "(self, other)", "__eq__": "(self, other)",
    "at": "(self, t)", "below": "(self, t)", "above": "(self, r)", "trace_on": "(self, lot)",
    "inside": "(self, t)", "joined_by": "(self, x)", "repeated": "(self, k)",
}

STRETCHES = {
    "__init__": "(self, size, lows, highs)", "low_joins": "(self)", "high_joins": "(self)", "agrees": "(self, j)",
    "wide": "(self)",
}

COUNTS = {"__init__": "(self, size, numbers, *, times=1)", "numbers_at": "(self, b)"}

DESK = {
    "__init__": "(self, world, *, most=200)", "note_down": "(self, text)", "now": "(self)", "deeds": "(self)",
    "undo": "(self)", "add_rate": "(self, p, r, rate)", "add_stroke": "(self, x, weight)", "drop": "(self, p)",
    "take_times": "(self, k)", "take_below": "(self, t)", "look_from": "(self, p)", "rename": "(self, names)",
    "glue": "(self, a, b)", "leave": "(self, z)", "what_if": "(self, deeds)",
}

TRIAL = {"__init__": "(self, desk)", "__enter__": "(self)", "__exit__": "(self, kind, value, trace)"}

GENERATORS = {"lots_of": "partings", "chains": "runs"}
