"""[0.3], [0.6] and "The interface": names, arguments, modules, and where each thing is defined."""

import ast
import importlib
import inspect
from pathlib import Path

from mergerates.leaving import Clock
from mergerates.worlds import World
from tests.case import Case

MOVES = [((0, 1, 2), (0, 0, 1), 2), ((0, 1, 2), (0, 0, 0), 1), ((0, 0, 1), (0, 0, 0), 4)]
FOLDER = Path(__file__).resolve().parent.parent / "mergerates"

# The modules in the order of the document; the two helpers are used by all but errors.
ORDER = ("errors", "checks", "labels", "amounts", "partings", "tables", "tracing",
         "worlds", "runs", "leaving", "likeness", "seen", "steady", "colours", "likejoins")

FUNCTIONS = {
    "amounts": {
        "fraction": "(top, bottom=1)", "plus": "(f, g)", "minus": "(f, g)", "multiply": "(f, g)",
        "over": "(f, g)", "compare": "(f, g)", "power": "(f, k)", "total": "(rest)", "shown": "(f)",
    },
    "partings": {
        "singles": "(n)", "whole": "(n)", "lot_parting": "(lot, n)", "parting_of": "(marks)",
        "partings": "(n)", "count_of": "(p)", "blocks_of": "(p)", "shape_of": "(p)", "touched": "(p)",
        "together": "(p, a, b)", "finer": "(p, r)", "join": "(p, r)", "meet": "(p, r)",
        "join_all": "(p, *rest)", "trace": "(p, lot)", "seen_from": "(p, r)", "lifted": "(p, x)",
        "renamed": "(p, names)", "coarser_than": "(p)", "lots_of": "(n, size)",
    },
    "tables": {
        "mu": "(p, r)", "sums_below": "(n, table)", "sums_above": "(n, table)",
        "told_below": "(n, table)", "told_above": "(n, table)", "counts_by_touch": "(n)",
        "without_alone": "(k)", "colour_count": "(p, k)",
    },
    "tracing": {"goes_through": "(rest, lot)", "broken_link": "(rest, lot)"},
    "worlds": {"reached": "(world, start=None)"},
    "runs": {
        "stays": "(world, start=None, *, inside=None)", "meets": "(world, start=None)",
        "chains": "(world, start=None)", "chain_chance": "(world, chain)",
    },
    "leaving": {
        "exits": "(world, family)", "memoryless": "(world, family)", "leaving_time": "(world, family, start)",
    },
    "likeness": {
        "factor_at": "(world, other, p)", "unlike_chain": "(world, other)", "same_chains": "(world, other)",
    },
    "seen": {"seen_world": "(world, p)", "below_world": "(world, t)", "renamed_world": "(world, names)"},
    "steady": {
        "finer_than": "(t)", "is_steady": "(world, t)", "unsteady_pair": "(world, t)",
        "steady_partings": "(world)", "steady_to": "(world)", "held_time": "(world, t, start)",
        "breaking_table": "(world)",
    },
    "colours": {
        "row_exit": "(b, row, t)", "alike_to_colours": "(b, row, other, q)",
        "unlike_colouring": "(b, row, other, q)", "seen_to": "(b, row, q)", "unseen_rows": "(b, q)",
    },
    "likejoins": {
        "joined_row": "(world, p)", "like_joins_at": "(world, p)", "joins_here": "(world, p, q)",
        "first_joins": "(world)", "least_colours": "(world)", "is_one_lot": "(world)", "not_one_lot": "(world)",
    },
}

WORLD = {
    "__init__": "(self, size, moves=(), *, times=1)", "__call__": "(self, p, r)", "__iter__": "(self)",
    "__add__": "(self, other)", "__mul__": "(self, other)", "__eq__": "(self, other)",
    "total_from": "(self, p)", "from_here": "(self, p)", "is_end": "(self, p)",
    "first_rates": "(self)", "row_at": "(self, p)", "exit_from": "(self, p, t)", "lines": "(self)",
}

CLOCK = {"__init__": "(self, world, family)", "__call__": "(self, p)", "level": "(self)", "bounds": "(self, p)"}
GENERATORS = {"lots_of": "partings", "chains": "runs"}


def module_named(name):
    return importlib.import_module(f"mergerates.{name}")


def imports_of(name):
    """The names of the package's modules from which a module imports."""
    tree = ast.parse((FOLDER / f"{name}.py").read_text())
    found = [node.module for node in ast.walk(tree) if isinstance(node, ast.ImportFrom)]
    return [module.removeprefix("mergerates.") for module in found if module.startswith("mergerates.")]


class Interface(Case):
    def test_functions_stand_in_their_files(self):
        for name, functions in FUNCTIONS.items():
            for word, arguments in functions.items():
                with self.subTest(f"{name}.{word}"):
                    function = getattr(module_named(name), word)
                    self.assertEqual(str(inspect.signature(function)), arguments)
                    self.assertEqual(function.__module__, f"mergerates.{name}")

    def test_generators(self):
        for name, functions in FUNCTIONS.items():
            for word in functions:
                found = inspect.isgeneratorfunction(getattr(module_named(name), word))
                self.assertEqual(found, GENERATORS.get(word) == name, word)

    def test_clock_defines_its_methods_itself(self):
        for word, arguments in CLOCK.items():
            with self.subTest(word):
                self.assertEqual(str(inspect.signature(vars(Clock)[word])), arguments)
        self.assertEqual(Clock.__module__, "mergerates.leaving")
        self.assertEqual(Clock.__bases__, (object,))

    def test_world_defines_its_methods_itself(self):
        for word, arguments in WORLD.items():
            with self.subTest(word):
                self.assertEqual(str(inspect.signature(vars(World)[word])), arguments)
        self.assertIsInstance(vars(World)["many"], property)
        self.assertIsInstance(vars(World)["line_of"], staticmethod)
        self.assertIsInstance(vars(World)["read"], classmethod)
        self.assertEqual(str(inspect.signature(World.line_of)), "(move)")
        self.assertEqual(str(inspect.signature(World.read)), "(text)")
        self.assertEqual(World.__module__, "mergerates.worlds")

    def test_0_6_modules_use_earlier_ones(self):
        self.assertEqual(sorted([*ORDER, "__init__"]), sorted(path.stem for path in FOLDER.glob("*.py")))
        for name in ORDER:
            for used in imports_of(name):
                self.assertLess(ORDER.index(used), ORDER.index(name), f"{name} uses {used}")


class Examples(Case):
    def test_join(self):
        from mergerates.partings import join
        self.same(join((0, 0, 1, 2), (0, 1, 1, 2)), (0, 0, 0, 1))

    def test_sums_below(self):
        from mergerates.tables import sums_below
        self.same(sums_below(2, (5, 3)), ((8, 1), (3, 1)))

    def test_broken_link(self):
        from mergerates.tracing import broken_link
        self.same(broken_link([(0, 1, 1), (0, 1, 0)], (0, 1)), (0, 1, (1, 0)))

    def test_lines(self):
        self.same(World(3, MOVES).lines(), "names 3\n001 > 000 : 4\n012 > 000 : 1\n012 > 001 : 2")

    def test_stays(self):
        from mergerates.runs import stays
        self.same(stays(World(3, MOVES)), (None, (1, 6), (0, 1), (0, 1), (1, 3)))

    def test_clock(self):
        k = Clock(World(3, MOVES), [(0, 0, 1), (0, 1, 2)])
        self.same([k((0, 1, 2)), k((0, 0, 1)), k.bounds((0, 1, 2)), k.level()], [(1, 2), (1, 4), (1, 4), None])

    def test_held_time(self):
        from mergerates.steady import held_time, unsteady_pair
        first = [((0, 1, 2, 3), (0, 0, 1, 2), 2), ((0, 1, 2, 3), (0, 1, 2, 2), 2), ((0, 1, 2, 3), (0, 0, 0, 0), 2)]
        second = [((0, 0, 1, 2), (0, 0, 1, 1), 1), ((0, 0, 1, 2), (0, 0, 0, 0), 3), ((0, 1, 2, 2), (0, 0, 1, 1), 3)]
        third = [((0, 1, 2, 2), (0, 0, 0, 0), 1), ((0, 0, 1, 1), (0, 0, 0, 0), 2)]
        w = World(4, first + second + third)
        t = (0, 0, 1, 1)
        self.same([unsteady_pair(w, t), held_time(w, t, (0, 1, 2, 3)), held_time(w, t, (0, 0, 1, 2)),
                   held_time(w, t, t)], [((0, 0, 1, 1), (0, 0, 1, 2)), (1, 2), (3, 8), (1, 2)])

    def test_unseen_rows(self):
        from mergerates.colours import alike_to_colours, unlike_colouring, unseen_rows
        row = (2, 0, 0, 0, 0)
        other = (0, 1, 1, 1, 0)
        self.same([alike_to_colours(3, row, other, 2), unlike_colouring(3, row, other, 3), unseen_rows(3, 2)],
                  [True, (0, 1, 2), [(-2, 1, 1, 1, 0)]])

    def test_first_joins(self):
        from mergerates.likejoins import first_joins, least_colours
        from mergerates.steady import breaking_table, steady_to
        w = World(3, [((0, 1, 2), (0, 0, 1), 1), ((0, 0, 1), (0, 0, 0), 3)])
        self.same([breaking_table(w), least_colours(w), steady_to(w)], [(0, 0, 1, 1, 1), (1, 1, 1, 1, 3), 1])
        self.same(first_joins(w).moves,
                  (((0, 1, 0), (0, 0, 0), 1), ((0, 1, 1), (0, 0, 0), 1), ((0, 1, 2), (0, 0, 1), 1)))
