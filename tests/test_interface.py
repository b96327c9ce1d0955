"""[0.3], [0.6] and "The interface": names, arguments, modules, and where each thing is defined."""

import ast
import importlib
import inspect
from pathlib import Path

from mergerates.chances import Chances
from mergerates.joins import Joins
from mergerates.leaving import Clock
from mergerates.polynomials import Poly
from mergerates.worlds import World
from tests.case import Case

MOVES = [((0, 1, 2), (0, 0, 1), 2), ((0, 1, 2), (0, 0, 0), 1), ((0, 0, 1), (0, 0, 0), 4)]
FOLDER = Path(__file__).resolve().parent.parent / "mergerates"

# The modules in the order of the document; the two helpers are used by all but errors.
ORDER = ("errors", "checks", "labels", "amounts", "partings", "tables", "tracing",
         "worlds", "runs", "leaving", "likeness", "seen", "steady", "colours", "likejoins",
         "joins", "breaking", "means", "telling", "polynomials", "chances", "missing", "colouring",
         "splits", "again", "nesting", "serving", "together")

FUNCTIONS = {
    "amounts": {
        "fraction": "(top, bottom=1)", "plus": "(f, g)", "minus": "(f, g)", "multiply": "(f, g)",
        "over": "(f, g)", "compare": "(f, g)", "power": "(f, k)", "total": "(rest)", "shown": "(f)",
    },
    "partings": {
        "singles": "(n)", "whole": "(n)", "lot_parting": "(lot, n)", "parting_of": "(marks)",
        "partings": "(n)", "count_of": "(p)", "blocks_of": "(p)", "shape_of": "(p)", "touched": "(p)",
        "together": "(p, a, b)", "finer": "(p, r)", "join": "(p, r)", "meet": "(p, r)",
        "join_all": "(p, *rest)", "trace": "(p, lot)", "seen_from": "(p, r)", "lifted": "(p, x)",
        "renamed": "(p, names)", "coarser_than": "(p)", "lots_of": "(n, size)",
    },
    "tables": {
        "mu": "(p, r)", "sums_below": "(n, table)", "sums_above": "(n, table)",
        "told_below": "(n, table)", "told_above": "(n, table)", "counts_by_touch": "(n)",
        "without_alone": "(k)", "colour_count": "(p, k)",
    },
    "tracing": {"goes_through": "(rest, lot)", "broken_link": "(rest, lot)"},
    "worlds": {"reached": "(world, start=None)"},
    "runs": {
        "stays": "(world, start=None, *, inside=None)", "meets": "(world, start=None)",
        "chains": "(world, start=None)", "chain_chance": "(world, chain)",
    },
    "leaving": {
        "exits": "(world, family)", "memoryless": "(world, family)", "leaving_time": "(world, family, start)",
    },
    "likeness": {
        "factor_at": "(world, other, p)", "unlike_chain": "(world, other)", "same_chains": "(world, other)",
    },
    "seen": {"seen_world": "(world, p)", "below_world": "(world, t)", "renamed_world": "(world, names)"},
    "steady": {
        "finer_than": "(t)", "is_steady": "(world, t)", "unsteady_pair": "(world, t)",
        "steady_partings": "(world)", "steady_to": "(world)", "held_time": "(world, t, start)",
        "breaking_table": "(world)",
    },
    "colours": {
        "row_exit": "(b, row, t)", "alike_to_colours": "(b, row, other, q)",
        "unlike_colouring": "(b, row, other, q)", "seen_to": "(b, row, q)", "unseen_rows": "(b, q)",
    },
    "likejoins": {
        "joined_row": "(world, p)", "like_joins_at": "(world, p)", "joins_here": "(world, p, q)",
        "first_joins": "(world)", "least_colours": "(world)", "is_one_lot": "(world)", "not_one_lot": "(world)",
    },
    "joins": {"joins_of": "(world)"},
    "breaking": {
        "breaking_rates": "(j)", "weights_from": "(n, table)", "table_comes": "(n, table)",
        "wanting_at": "(n, table)",
    },
    "means": {
        "time_below": "(j, t)", "stays_by_sums": "(j)", "stay_between": "(j, p, t)", "last_chances": "(j)",
        "question_time": "(j, r)", "whole_time": "(j)", "surely_met": "(j)",
    },
    "telling": {
        "weights_from_stays": "(n, table)", "stays_come": "(n, table)", "meets_to_breaking": "(n, table)",
        "meets_come": "(n, table)", "one_factor": "(j, other)",
    },
    "polynomials": {
        "below_poly": "(j, t)", "chance_polys": "(j)", "open_poly": "(j, r)", "both_open_poly": "(j, r, s)",
    },
    "chances": {"one_time": "(j, u)"},
    "missing": {
        "chances_of": "(size, strokes)", "misses": "(chances)", "comes_of_strokes": "(chances)",
        "strokes_of": "(chances)", "quotient": "(chances, other)", "divides": "(other, chances)",
        "divides_by_strokes": "(other, chances)",
    },
    "colouring": {
        "colour_sum": "(chances, k)", "by_colourings": "(chances, k)", "joined_sum": "(chances)",
    },
    "splits": {
        "splits_of": "(lot)", "breaks": "(j, side, other)", "extensions": "(n, side, other)",
        "least_extension": "(j, side, other)", "apart_poly": "(j, side, other)", "memory_free": "(j, side, other)",
    },
    "again": {
        "stays_joins": "(j, lot)", "failing_strokes": "(j, lot)", "rest_joins": "(j, lot)", "may_leave": "(j, z)",
        "leavable": "(j)", "traced_chances": "(j, lot, u)",
    },
    "nesting": {
        "nest": "(p, r)", "union_is_parting": "(p, r)", "unnested": "(j)", "nested": "(j)",
        "meeting_rates": "(j)", "lots_from_rates": "(table)",
    },
    "serving": {
        "gatherings": "(j, *, without=None)", "serves": "(j, x, r)", "served_at": "(j, x, r)", "servers": "(j, r)",
        "both_served": "(j, r, s)", "closing_at_once": "(j, r, s)", "chance_at_once": "(j, r, s)",
    },
    "together": {
        "closed_chance": "(j, r, u)", "both_closed": "(j, r, s, u)", "covariance": "(j, r, s, u)",
        "independent": "(j, r, s)", "lots_independent": "(j, lots)", "sharing_stroke": "(j, lots)",
        "together_chances": "(j, lots, u)", "first_time": "(j, r, s)", "product_time": "(j, r, s)",
        "parts_independent": "(j, t)", "way_between": "(j, a, b, c, d)",
    },
}

WORLD = {
    "__init__": "(self, size, moves=(), *, times=1)", "__call__": "(self, p, r)", "__iter__": "(self)",
    "__add__": "(self, other)", "__mul__": "(self, other)", "__eq__": "(self, other)",
    "total_from": "(self, p)", "from_here": "(self, p)", "is_end": "(self, p)",
    "first_rates": "(self)", "row_at": "(self, p)", "exit_from": "(self, p, t)", "lines": "(self)",
}

CLOCK = {"__init__": "(self, world, family)", "__call__": "(self, p)", "level": "(self)", "bounds": "(self, p)"}

JOINS = {
    "__init__": "(self, size, weights, *, times=1)", "strokes": "(self)", "breaking": "(self, t)",
    "seen_joins": "(self, p)", "under": "(self, t)", "without": "(self, x)",
}

POLY = {
    "__init__": "(self, terms=())", "__add__": "(self, other)", "__sub__": "(self, other)",
    "__mul__": "(self, other)", "__neg__": "(self)", "__eq__": "(self, other)", "__bool__": "(self)",
    "__iter__": "(self)", "__call__": "(self, u)", "mean": "(self)", "at_one": "(self)",
}

CHANCES = {
    "__init__": "(self, size, table)", "__iter__": "(self)", "__add__": "(self, other)", "__eq__": "(self, other)",
    "at": "(self, t)", "below": "(self, t)", "above": "(self, r)", "trace_on": "(self, lot)",
    "inside": "(self, t)", "joined_by": "(self, x)", "repeated": "(self, k)",
}
GENERATORS = {"lots_of": "partings", "chains": "runs"}


def module_named(name):
    return importlib.import_module(f"mergerates.{name}")


def imports_of(name):
    """The names of the package's modules from which a module imports."""
    tree = ast.parse((FOLDER / f"{name}.py").read_text())
    found = [node.module for node in ast.walk(tree) if isinstance(node, ast.ImportFrom)]
    return [module.removeprefix("mergerates.") for module in found if module.startswith("mergerates.")]


class Interface(Case):
    def test_functions_stand_in_their_files(self):
        for name, functions in FUNCTIONS.items():
            for word, arguments in functions.items():
                with self.subTest(f"{name}.{word}"):
                    function = getattr(module_named(name), word)
                    self.assertEqual(str(inspect.signature(function)), arguments)
                    self.assertEqual(function.__module__, f"mergerates.{name}")

    def test_generators(self):
        for name, functions in FUNCTIONS.items():
            for word in functions:
                found = inspect.isgeneratorfunction(getattr(module_named(name), word))
                self.assertEqual(found, GENERATORS.get(word) == name, word)

    def test_clock_defines_its_methods_itself(self):
        self.defines_itself(Clock, "mergerates.leaving", (object,), CLOCK)

    def defines_itself(self, kind, module, bases, methods):
        for word, arguments in methods.items():
            with self.subTest(word):
                self.assertEqual(str(inspect.signature(vars(kind)[word])), arguments)
        self.assertEqual((kind.__module__, kind.__bases__), (module, bases))

    def test_joins_defines_its_methods_itself(self):
        self.defines_itself(Joins, "mergerates.joins", (World,), JOINS)
        self.assertIsInstance(vars(Joins)["top"], property)
        self.assertIsInstance(vars(Joins)["of_lots"], classmethod)
        self.assertIsInstance(vars(Joins)["of_pairs"], classmethod)
        self.assertEqual(str(inspect.signature(Joins.of_lots)), "(size, lots)")
        self.assertEqual(str(inspect.signature(Joins.of_pairs)), "(size, pairs)")
        self.assertEqual(vars(Joins)["KIND"], "joins")

    def test_poly_defines_its_methods_itself(self):
        self.defines_itself(Poly, "mergerates.polynomials", (object,), POLY)
        self.assertIsInstance(vars(Poly)["degree"], property)
        self.assertIsInstance(vars(Poly)["term"], classmethod)
        self.assertEqual(str(inspect.signature(Poly.term)), "(exponent, coefficient)")
        self.assertIn("__slots__", vars(Poly))

    def test_chances_defines_its_methods_itself(self):
        self.defines_itself(Chances, "mergerates.chances", (object,), CHANCES)

    def test_world_defines_its_methods_itself(self):
        self.defines_itself(World, "mergerates.worlds", (object,), WORLD)
        self.assertIsInstance(vars(World)["many"], property)
        self.assertIsInstance(vars(World)["line_of"], staticmethod)
        self.assertIsInstance(vars(World)["read"], classmethod)
        self.assertEqual(str(inspect.signature(World.line_of)), "(move)")
        self.assertEqual(str(inspect.signature(World.read)), "(text)")

    def test_0_6_modules_use_earlier_ones(self):
        self.assertEqual(sorted([*ORDER, "__init__"]), sorted(path.stem for path in FOLDER.glob("*.py")))
        for name in ORDER:
            for used in imports_of(name):
                self.assertLess(ORDER.index(used), ORDER.index(name), f"{name} uses {used}")


class Examples(Case):
    def test_join(self):
        from mergerates.partings import join
        self.same(join((0, 0, 1, 2), (0, 1, 1, 2)), (0, 0, 0, 1))

    def test_sums_below(self):
        from mergerates.tables import sums_below
        self.same(sums_below(2, (5, 3)), ((8, 1), (3, 1)))

    def test_broken_link(self):
        from mergerates.tracing import broken_link
        self.same(broken_link([(0, 1, 1), (0, 1, 0)], (0, 1)), (0, 1, (1, 0)))

    def test_lines(self):
        self.same(World(3, MOVES).lines(), "names 3\n001 > 000 : 4\n012 > 000 : 1\n012 > 001 : 2")

    def test_stays(self):
        from mergerates.runs import stays
        self.same(stays(World(3, MOVES)), (None, (1, 6), (0, 1), (0, 1), (1, 3)))

    def test_clock(self):
        k = Clock(World(3, MOVES), [(0, 0, 1), (0, 1, 2)])
        self.same([k((0, 1, 2)), k((0, 0, 1)), k.bounds((0, 1, 2)), k.level()], [(1, 2), (1, 4), (1, 4), None])

    def test_held_time(self):
        from mergerates.steady import held_time, unsteady_pair
        first = [((0, 1, 2, 3), (0, 0, 1, 2), 2), ((0, 1, 2, 3), (0, 1, 2, 2), 2), ((0, 1, 2, 3), (0, 0, 0, 0), 2)]
        second = [((0, 0, 1, 2), (0, 0, 1, 1), 1), ((0, 0, 1, 2), (0, 0, 0, 0), 3), ((0, 1, 2, 2), (0, 0, 1, 1), 3)]
        third = [((0, 1, 2, 2), (0, 0, 0, 0), 1), ((0, 0, 1, 1), (0, 0, 0, 0), 2)]
        w = World(4, first + second + third)
        t = (0, 0, 1, 1)
        self.same([unsteady_pair(w, t), held_time(w, t, (0, 1, 2, 3)), held_time(w, t, (0, 0, 1, 2)),
                   held_time(w, t, t)], [((0, 0, 1, 1), (0, 0, 1, 2)), (1, 2), (3, 8), (1, 2)])

    def test_unseen_rows(self):
        from mergerates.colours import alike_to_colours, unlike_colouring, unseen_rows
        row = (2, 0, 0, 0, 0)
        other = (0, 1, 1, 1, 0)
        self.same([alike_to_colours(3, row, other, 2), unlike_colouring(3, row, other, 3), unseen_rows(3, 2)],
                  [True, (0, 1, 2), [(-2, 1, 1, 1, 0)]])

    def test_first_joins(self):
        from mergerates.likejoins import first_joins, least_colours
        from mergerates.steady import breaking_table, steady_to
        w = World(3, [((0, 1, 2), (0, 0, 1), 1), ((0, 0, 1), (0, 0, 0), 3)])
        self.same([breaking_table(w), least_colours(w), steady_to(w)], [(0, 0, 1, 1, 1), (1, 1, 1, 1, 3), 1])
        self.same(first_joins(w).moves,
                  (((0, 1, 0), (0, 0, 0), 1), ((0, 1, 1), (0, 0, 0), 1), ((0, 1, 2), (0, 0, 1), 1)))

    def test_breaking_rates_and_stays_by_sums(self):
        from mergerates.breaking import breaking_rates
        from mergerates.means import stays_by_sums, whole_time
        j = Joins.of_pairs(3, [(0, 1, 1), (1, 2, 1)])
        self.same([j.weights, j.top, breaking_rates(j)], [(0, 1, 0, 1, 0), (0, 0, 0), (0, 1, 2, 1, 2)])
        self.same([stays_by_sums(j), whole_time(j)], [(None, (1, 2), (0, 1), (1, 2), (1, 2)), (3, 2)])

    def test_wanting_at(self):
        from mergerates.breaking import wanting_at, weights_from
        table = (0, 1, 1, 1, 2)
        self.same([weights_from(3, table), wanting_at(3, table)],
                  [((-1, 1), (1, 1), (1, 1), (1, 1), (0, 1)), (0, 0, 0)])

    def test_meets_to_breaking(self):
        from mergerates.telling import meets_come, meets_to_breaking
        table = (1, (1, 2), 0, (1, 2), 1)
        self.same([meets_to_breaking(3, table), meets_come(3, table)],
                  [((0, 1), (1, 2), (1, 1), (1, 2), (1, 1)), True])

    def test_open_poly(self):
        from mergerates.polynomials import open_poly
        f = open_poly(Joins.of_pairs(3, [(0, 1, 1), (1, 2, 1)]), (0, 0, 0))
        self.same([f.terms, f.mean(), f((1, 2))], [((1, 2), (2, -1)), (3, 2), (3, 4)])

    def test_chances_of(self):
        from mergerates.missing import chances_of, comes_of_strokes, misses, strokes_of
        P = chances_of(3, [((0, 1, 1), (1, 2)), ((0, 0, 1), (1, 2))])
        self.same([P.table, strokes_of(P)],
                  [((1, 4), (1, 4), (0, 1), (1, 4), (1, 4)), [((0, 0, 1), (1, 2)), ((0, 1, 1), (1, 2))]])
        Q = Chances(3, [0, (1, 4), (1, 4), (1, 4), (1, 4)])
        self.same([comes_of_strokes(Q), misses(Q)], [False, ((2, 1), (1, 2), (1, 2), (1, 2), (1, 1))])

    def test_leavable(self):
        from mergerates.again import failing_strokes, leavable, rest_joins
        from mergerates.splits import apart_poly, least_extension
        j = Joins.of_pairs(3, [(0, 1, 1), (1, 2, 1)])
        self.same([leavable(j), failing_strokes(j, (0, 2)), rest_joins(j, (1, 2)).weights],
                  [(0, 2), ((0, 0, 1), (0, 1, 1)), (1, 0)])
        self.same([apart_poly(j, (0,), (2,)).terms, least_extension(j, (0,), (2,)), least_extension(j, (0,), (1,))],
                  [((1, 2), (2, -1)), None, ((0,), (1, 2))])

    def test_lots_from_rates(self):
        from mergerates.nesting import lots_from_rates
        self.same(lots_from_rates([(None, 3, 1), (3, None, 1), (1, 1, None)]), [((0, 1), 2), ((0, 1, 2), 1)])

    def test_servers(self):
        from mergerates.serving import chance_at_once, closing_at_once, servers
        j = Joins.of_pairs(3, [(0, 1, 1), (1, 2, 1)])
        r = (0, 1, 0)
        s = (0, 0, 1)
        self.same([servers(j, r), closing_at_once(j, r, s), chance_at_once(j, r, s)],
                  [[(0, 0, 1), (0, 1, 1)], [((0, 1, 1), (0, 0, 1))], (1, 2)])

    def test_covariance(self):
        from mergerates.together import covariance, first_time, product_time
        j = Joins.of_lots(4, [((0, 1), 1), ((0, 1, 2, 3), 1)])
        r = (0, 0, 1, 2)
        s = (0, 1, 2, 2)
        self.same([covariance(j, r, s, (1, 2)), first_time(j, r, s), product_time(j, r, s)],
                  [(1, 8), (1, 2), (1, 3)])

    def test_together_chances(self):
        from mergerates.together import together_chances
        j = Joins.of_lots(4, [((0, 1), 1), ((0, 1, 2, 3), 1)])
        self.same(together_chances(j, [(0, 1), (3, 2)], (1, 2)),
                  [(((0, 0), (0, 0)), (1, 2)), (((0, 0), (0, 1)), (1, 4)), (((0, 1), (0, 1)), (1, 4))])
