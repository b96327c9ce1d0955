"""[0.3], [0.6] and "The interface": names, arguments, modules, and where each thing is defined."""

import ast
import importlib
import inspect
from pathlib import Path

from mergerates.chances import Chances
from mergerates.desks import Desk
from mergerates.joins import Joins
from mergerates.leaving import Clock
from mergerates.polynomials import Poly
from mergerates.rows import Counts
from mergerates.stretches import Stretches
from mergerates.trials import Trial
from mergerates.worlds import World
from tests.case import Case
from tests.signatures import (
    CHANCES, CLOCK, COUNTS, DESK, FUNCTIONS, GENERATORS, JOINS, ORDER, POLY, STRETCHES, TRIAL, WORLD,
)

FOLDER = Path(__file__).resolve().parent.parent / "mergerates"


def module_named(name):
    return importlib.import_module(f"mergerates.{name}")


def imports_of(name):
    """The names of the package's modules from which a module imports."""
    tree = ast.parse((FOLDER / f"{name}.py").read_text())
    found = [node.module for node in ast.walk(tree) if isinstance(node, ast.ImportFrom)]
    return [module.removeprefix("mergerates.") for module in found if module.startswith("mergerates.")]


class Interface(Case):
    def test_functions_stand_in_their_files(self):
        for name, functions in FUNCTIONS.items():
            for word, arguments in functions.items():
                with self.subTest(f"{name}.{word}"):
                    function = getattr(module_named(name), word)
                    self.assertEqual(str(inspect.signature(function)), arguments)
                    self.assertEqual(function.__module__, f"mergerates.{name}")

    def test_generators(self):
        for name, functions in FUNCTIONS.items():
            for word in functions:
                found = inspect.isgeneratorfunction(getattr(module_named(name), word))
                self.assertEqual(found, GENERATORS.get(word) == name, word)

    def test_clock_defines_its_methods_itself(self):
        self.defines_itself(Clock, "mergerates.leaving", (object,), CLOCK)

    def defines_itself(self, kind, module, bases, methods):
        for word, arguments in methods.items():
            with self.subTest(word):
                self.assertEqual(str(inspect.signature(vars(kind)[word])), arguments)
        self.assertEqual((kind.__module__, kind.__bases__), (module, bases))

    def test_joins_defines_its_methods_itself(self):
        self.defines_itself(Joins, "mergerates.joins", (World,), JOINS)
        self.assertIsInstance(vars(Joins)["top"], property)
        self.assertIsInstance(vars(Joins)["of_lots"], classmethod)
        self.assertIsInstance(vars(Joins)["of_pairs"], classmethod)
        self.assertEqual(str(inspect.signature(Joins.of_lots)), "(size, lots)")
        self.assertEqual(str(inspect.signature(Joins.of_pairs)), "(size, pairs)")
        self.assertEqual(vars(Joins)["KIND"], "joins")

    def test_poly_defines_its_methods_itself(self):
        self.defines_itself(Poly, "mergerates.polynomials", (object,), POLY)
        self.assertIsInstance(vars(Poly)["degree"], property)
        self.assertIsInstance(vars(Poly)["term"], classmethod)
        self.assertEqual(str(inspect.signature(Poly.term)), "(exponent, coefficient)")
        self.assertIn("__slots__", vars(Poly))

    def test_chances_defines_its_methods_itself(self):
        self.defines_itself(Chances, "mergerates.chances", (object,), CHANCES)

    def test_stretches_defines_its_methods_itself(self):
        self.defines_itself(Stretches, "mergerates.stretches", (object,), STRETCHES)

    def test_counts_defines_its_methods_itself(self):
        self.defines_itself(Counts, "mergerates.rows", (World,), COUNTS)
        self.assertEqual(vars(Counts)["KIND"], "counts")

    def test_desk_and_trial_define_their_methods_themselves(self):
        self.defines_itself(Desk, "mergerates.desks", (object,), DESK)
        self.assertIsInstance(vars(Desk)["depth"], property)
        self.assertIsInstance(vars(Desk)["note"], property)
        self.defines_itself(Trial, "mergerates.trials", (object,), TRIAL)

    def test_world_defines_its_methods_itself(self):
        self.defines_itself(World, "mergerates.worlds", (object,), WORLD)
        self.assertIsInstance(vars(World)["many"], property)
        self.assertIsInstance(vars(World)["line_of"], staticmethod)
        self.assertIsInstance(vars(World)["read"], classmethod)
        self.assertEqual(str(inspect.signature(World.line_of)), "(move)")
        self.assertEqual(str(inspect.signature(World.read)), "(text)")

    def test_0_6_modules_use_earlier_ones(self):
        self.assertEqual(sorted([*ORDER, "__init__"]), sorted(path.stem for path in FOLDER.glob("*.py")))
        for name in ORDER:
            for used in imports_of(name):
                self.assertLess(ORDER.index(used), ORDER.index(name), f"{name} uses {used}")
