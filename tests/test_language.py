"""[0.1] and the rules of the language that can be seen without running the program."""

import ast
import builtins
import re
from pathlib import Path

from tests.case import Case

FOLDER = Path(__file__).resolve().parent.parent / "mergerates"
LIBRARY = {"math": {"gcd", "lcm", "isqrt", "comb", "perm", "factorial"},
           "itertools": {"product", "combinations", "permutations"},
           "heapq": {"heappush", "heappop", "heapify", "heapreplace", "heappushpop"},
           "collections": {"defaultdict"}}
BUILTINS = set("""len range enumerate zip min max sum abs sorted reversed int str bool bytes list tuple dict set
    frozenset isinstance ord repr any all divmod pow getattr hasattr setattr iter next map super property
    staticmethod classmethod ValueError KeyError NotImplemented""".split())
BARRED = re.compile(r"\b(type|typing|enum|Enum|namedtuple|dataclass|abstractmethod|register|mro|law|eval|exec)\b")
METHODS = set("""append clear copy count endswith extend find get index insert isalnum isalpha isdigit islower isspace
    isupper items join keys ljust lower lstrip partition pop remove replace reverse rfind rjust rpartition rsplit
    rstrip setdefault split splitlines startswith strip update upper values zfill bit_length""".split())
# What is iterated where it stands, and what may take it whole.
LAZY = ("zip", "enumerate", "reversed", "range", "items", "keys", "values", "combinations", "product", "permutations")
TAKERS = ("list", "tuple", "dict", "sorted", "sum", "any", "all", "enumerate", "zip", "min", "max", "combinations",
          "product", "permutations", "reversed", "len")
WRONG_NODES = (ast.Div, ast.Global, ast.AsyncFunctionDef, ast.Await, ast.Import)


def sources():
    return [(path.name, path.read_bytes()) for path in sorted(FOLDER.rglob("*")) if path.suffix == ".py"]


def bound_at_the_top(tree):
    """The names of the imports, and those of the functions, classes and values that a file defines."""
    imports = [alias.name for node in tree.body if isinstance(node, ast.ImportFrom) for alias in node.names]
    own = [node.name for node in tree.body if isinstance(node, (ast.FunctionDef, ast.ClassDef))]
    own += [node.targets[0].id for node in tree.body if isinstance(node, ast.Assign)]
    return imports, own


def bound_inside(tree):
    """The names of all parameters, local variables and loops."""
    for node in ast.walk(tree):
        if isinstance(node, ast.FunctionDef):
            for inner in ast.walk(node):
                if isinstance(inner, ast.arg):
                    yield inner.arg
                elif isinstance(inner, ast.Name) and isinstance(inner.ctx, ast.Store):
                    yield inner.id


def trees():
    return [(name, ast.parse(text)) for name, text in sources()]


class Language(Case):
    def test_l1_only_files_of_python(self):
        for path in FOLDER.rglob("*"):
            if "__pycache__" not in path.parts:
                self.assertTrue(re.fullmatch(r"[a-z_]+\.py", path.name), path)

    def test_l10_l14_sizes_and_signs(self):
        for name, text in sources():
            lines = text.decode("ascii").split("\n")
            self.assertLessEqual(len(lines), 400, name)
            for line in lines:
                self.assertTrue(len(line) <= 120 and all(" " <= sign <= "~" for sign in line), (name, line))

    def test_l10_functions_are_short(self):
        for name, tree in trees():
            for node in ast.walk(tree):
                if isinstance(node, ast.FunctionDef):
                    self.assertLessEqual(node.end_lineno - node.lineno + 1, 40, (name, node.name))

    def test_l2_l16_imports(self):
        for name, tree in trees():
            for node in ast.walk(tree):
                if isinstance(node, ast.ImportFrom):
                    self.assertEqual(node.level, 0)
                    words = {alias.name for alias in node.names}
                    known = LIBRARY.get(node.module, set())
                    self.assertTrue(node.module.startswith("mergerates.") or words <= known, (name, node.module))

    def test_l15_one_binding_for_each_name(self):
        for name, tree in trees():
            imports, own = bound_at_the_top(tree)
            self.assertEqual(sorted([*imports, *own]), sorted({*imports, *own}), name)
            classes = [node.name for node in tree.body if isinstance(node, ast.ClassDef)]
            self.assertEqual({*imports, *classes} & set(bound_inside(tree)), set(), name)

    def test_l16_names_come_from_the_file_that_defines_them(self):
        own = {name.removesuffix(".py"): bound_at_the_top(tree)[1] for name, tree in trees()}
        for name, tree in trees():
            used = {node.id for node in ast.walk(tree) if isinstance(node, ast.Name)}
            for node in tree.body:
                if isinstance(node, ast.ImportFrom):
                    words = {alias.name for alias in node.names}
                    self.assertLessEqual(words, used, name)
                    if node.module not in LIBRARY:
                        self.assertLessEqual(words, set(own[node.module.removeprefix("mergerates.")]), name)

    def test_l25_methods(self):
        attributes = set()
        for name, tree in trees():
            for node in ast.walk(tree):
                if isinstance(node, ast.ClassDef):
                    attributes |= {inner.name for inner in node.body if isinstance(inner, ast.FunctionDef)}
        for name, tree in trees():
            for node in ast.walk(tree):
                if isinstance(node, ast.Call) and isinstance(node.func, ast.Attribute):
                    self.assertIn(node.func.attr, METHODS | attributes, (name, node.lineno))

    def test_l24_no_sets(self):
        for name, tree in trees():
            for node in ast.walk(tree):
                self.assertNotIsInstance(node, (ast.Set, ast.SetComp), name)

    def test_l23_generators_are_iterated_at_once(self):
        found = {node.name for name, tree in trees() for node in ast.walk(tree)
                 if isinstance(node, ast.FunctionDef) and any(isinstance(x, ast.Yield) for x in ast.walk(node))}
        self.assertEqual(found, {"lots_of", "chains"})
        for name, tree in trees():
            used = [node.id for node in ast.walk(tree) if isinstance(node, ast.Name)]
            self.assertEqual(found & {*used, *bound_inside(tree)}, set(), name)

    def test_l23_iterated_at_once(self):
        for name, tree in trees():
            around = {inner: node for node in ast.walk(tree) for inner in ast.iter_child_nodes(node)}
            for node in ast.walk(tree):
                word = getattr(node.func, "id", getattr(node.func, "attr", "")) if isinstance(node, ast.Call) else ""
                if word in LAZY:
                    outside = around[node]
                    if isinstance(outside, ast.Call):
                        self.assertIn(getattr(outside.func, "id", ""), TAKERS, (name, node.lineno))
                    elif word != "range" or not isinstance(outside, ast.Assign):
                        self.assertIsInstance(outside, (ast.For, ast.comprehension), (name, node.lineno))

    def test_l3_module_level(self):
        plain = (ast.ImportFrom, ast.FunctionDef, ast.ClassDef, ast.Assign)
        for name, tree in trees():
            for place, node in enumerate(tree.body):
                docstring = place == 0 and isinstance(node, ast.Expr) and isinstance(node.value, ast.Constant)
                self.assertTrue(docstring or isinstance(node, plain), (name, node.lineno))

    def test_0_1_no_floats_and_nothing_barred(self):
        for name, tree in trees():
            for node in ast.walk(tree):
                self.assertNotIsInstance(node, WRONG_NODES, (name, getattr(node, "lineno", 0)))
                if isinstance(node, ast.Constant):
                    self.assertNotIsInstance(node.value, (float, complex), name)
                    if isinstance(node.value, str):
                        self.assertNotIn("\x25", node.value, name)

    def test_l8_builtins(self):
        # doctest leaves its last answer among the builtins, as `_`.
        every = set(dir(builtins)) - {"_"}
        for name, tree in trees():
            for node in ast.walk(tree):
                if isinstance(node, ast.Name) and node.id in every:
                    self.assertIn(node.id, BUILTINS, (name, node.lineno))

    def test_l17_words(self):
        for name, tree in trees():
            for node in ast.walk(tree):
                words = [getattr(node, "id", ""), getattr(node, "attr", ""), getattr(node, "arg", "") or ""]
                if isinstance(node, (ast.FunctionDef, ast.ClassDef)):
                    words.append(node.name)
                for word in words:
                    self.assertIsNone(BARRED.search(word), (name, word))

    def test_l7_all_and_any_take_lists(self):
        for name, tree in trees():
            for node in ast.walk(tree):
                if isinstance(node, ast.Call):
                    for argument in node.args:
                        self.assertNotIsInstance(argument, ast.GeneratorExp, (name, node.lineno))
