"""[0.3], [0.6] and "The interface": names, arguments, modules, and where each thing is defined."""

import ast
import importlib
import inspect
from pathlib import Path

from mergerates.worlds import World
from tests.case import Case

FOLDER = Path(__file__).resolve().parent.parent / "mergerates"

# The modules in the order of the document; the two helpers are used by all but errors.
ORDER = ("errors", "checks", "labels", "amounts", "partings", "tables", "tracing", "worlds")

FUNCTIONS = {
    "amounts": {
        "fraction": "(top, bottom=1)", "plus": "(f, g)", "minus": "(f, g)", "multiply": "(f, g)",
        "over": "(f, g)", "compare": "(f, g)", "power": "(f, k)", "total": "(rest)", "shown": "(f)",
    },
    "partings": {
        "singles": "(n)", "whole": "(n)", "lot_parting": "(lot, n)", "parting_of": "(marks)",
        "partings": "(n)", "count_of": "(p)", "blocks_of": "(p)", "shape_of": "(p)", "touched": "(p)",
        "together": "(p, a, b)", "finer": "(p, r)", "join": "(p, r)", "meet": "(p, r)",
        "join_all": "(p, *rest)", "trace": "(p, lot)", "seen_from": "(p, r)", "lifted": "(p, x)",
        "renamed": "(p, names)", "coarser_than": "(p)", "lots_of": "(n, size)",
    },
    "tables": {
        "mu": "(p, r)", "sums_below": "(n, table)", "sums_above": "(n, table)",
        "told_below": "(n, table)", "told_above": "(n, table)", "counts_by_touch": "(n)",
        "without_alone": "(k)", "colour_count": "(p, k)",
    },
    "tracing": {"goes_through": "(rest, lot)", "broken_link": "(rest, lot)"},
    "worlds": {"reached": "(world, start=None)"},
}

WORLD = {
    "__init__": "(self, size, moves=(), *, times=1)", "__call__": "(self, p, r)", "__iter__": "(self)",
    "__add__": "(self, other)", "__mul__": "(self, other)", "__eq__": "(self, other)",
    "total_from": "(self, p)", "from_here": "(self, p)", "is_end": "(self, p)",
    "first_rates": "(self)", "row_at": "(self, p)", "exit_from": "(self, p, t)", "lines": "(self)",
}


def module_named(name):
    return importlib.import_module(f"mergerates.{name}")


def imports_of(name):
    """The names of the package's modules from which a module imports."""
    tree = ast.parse((FOLDER / f"{name}.py").read_text())
    found = [node.module for node in ast.walk(tree) if isinstance(node, ast.ImportFrom)]
    return [module.removeprefix("mergerates.") for module in found if module.startswith("mergerates.")]


class Interface(Case):
    def test_functions_stand_in_their_files(self):
        for name, functions in FUNCTIONS.items():
            for word, arguments in functions.items():
                with self.subTest(f"{name}.{word}"):
                    function = getattr(module_named(name), word)
                    self.assertEqual(str(inspect.signature(function)), arguments)
                    self.assertEqual(function.__module__, f"mergerates.{name}")

    def test_lots_of_is_a_generator(self):
        self.assertTrue(inspect.isgeneratorfunction(module_named("partings").lots_of))

    def test_world_defines_its_methods_itself(self):
        for word, arguments in WORLD.items():
            with self.subTest(word):
                self.assertEqual(str(inspect.signature(vars(World)[word])), arguments)
        self.assertIsInstance(vars(World)["many"], property)
        self.assertIsInstance(vars(World)["line_of"], staticmethod)
        self.assertIsInstance(vars(World)["read"], classmethod)
        self.assertEqual(str(inspect.signature(World.line_of)), "(move)")
        self.assertEqual(str(inspect.signature(World.read)), "(text)")
        self.assertEqual(World.__module__, "mergerates.worlds")

    def test_0_6_modules_use_earlier_ones(self):
        self.assertEqual(sorted([*ORDER, "__init__"]), sorted(path.stem for path in FOLDER.glob("*.py")))
        for name in ORDER:
            for used in imports_of(name):
                self.assertLess(ORDER.index(used), ORDER.index(name), f"{name} uses {used}")


class Examples(Case):
    def test_join(self):
        from mergerates.partings import join
        self.same(join((0, 0, 1, 2), (0, 1, 1, 2)), (0, 0, 0, 1))

    def test_sums_below(self):
        from mergerates.tables import sums_below
        self.same(sums_below(2, (5, 3)), ((8, 1), (3, 1)))

    def test_broken_link(self):
        from mergerates.tracing import broken_link
        self.same(broken_link([(0, 1, 1), (0, 1, 0)], (0, 1)), (0, 1, (1, 0)))

    def test_lines(self):
        moves = [((0, 1, 2), (0, 0, 1), 2), ((0, 1, 2), (0, 0, 0), 1), ((0, 0, 1), (0, 0, 0), 4)]
        self.same(World(3, moves).lines(), "names 3\n001 > 000 : 4\n012 > 000 : 1\n012 > 001 : 2")
