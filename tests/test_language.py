"""Some rules of the language subset that can be read off the files, so that a slip is seen early."""

import ast
import builtins
import pathlib
import re
import unittest

PACKAGE = pathlib.Path(__file__).resolve().parent.parent / "twoeach"
FILES = sorted(PACKAGE.rglob("*.py"))

INTERFACE = {
    "errors": ["LineError", "MissingError", "StateError", "LimitError", "TooMany"],
    "basics": ["is_integer", "is_count", "is_name"],
    "kinds": ["Kind"],
    "pieces": ["Piece"],
    "boxes": ["Box"],
    "owners": ["is_paired", "owners", "is_owners", "lot_cells", "lot_lack", "greatest_lack", "least_lot", "greatest_lot",
               "is_poor_lot"],
    "choices": ["is_choice", "least_choice", "how_many_choices", "possible", "sure", "set_lack", "greatest_lack",
                "least_set", "greatest_set", "is_poor_set"],
    "answers": ["Answers"],
    "sizes": ["is_crowded", "crowded_sets", "square", "always_paired", "longest", "stairs", "least_strikes"],
    "settled": ["Settled", "Owned", "Crowded", "CoreOwned", "settled"],
    "plans": ["Plan"],
    "playing": ["plan_of_choice", "pairs_in", "first_unserved", "partner_in", "led_by"],
    "columns": ["useful_pairs", "is_state", "steps", "is_walk", "walk"],
    "found": ["longest_served", "least_period", "plan_for", "ranks", "is_ranks", "refuses"],
    "weights": ["weight", "line_weight", "is_halved", "halved_length", "Stand"],
    "small": ["spoiling", "race", "line_strategy", "spoil_strategy", "is_line_strategy", "is_spoil_strategy"],
    "texts": ["piece_text", "read_piece"],
    "judge": ["verdict", "is_claim", "certificate_of", "is_certificate"],
    "games": ["Game"],
}

LIBRARY = {
    "heapq": ["heappush", "heappop", "heapify", "heapreplace", "heappushpop"],
    "math": ["gcd", "lcm", "isqrt", "comb", "perm", "factorial"],
    "itertools": ["product", "combinations", "permutations"],
}

BUILTINS = """len range enumerate zip min max sum abs sorted reversed int str bool bytes list tuple dict set frozenset
    isinstance ord repr any all divmod map iter next property staticmethod classmethod super Exception ValueError
    TypeError KeyError IndexError LookupError ZeroDivisionError ArithmeticError OverflowError RuntimeError
    NotImplementedError AttributeError StopIteration NotImplemented""".split()

# The interactive shell, and doctest with it, keeps the last value as _ among the builtins.
BUILT_IN = [name for name in dir(builtins) if name != "_"]

BARRED = """type typing typing_extensions enum Enum IntEnum StrEnum Flag IntFlag Generic Protocol ABC ABCMeta namedtuple
    NamedTuple TypedDict TYPE_CHECKING abstractmethod""".split()


def trees():
    for path in FILES:
        yield path.name, ast.parse(path.read_text(encoding="utf-8"))


def nodes(*wanted):
    for name, tree in trees():
        for node in ast.walk(tree):
            if isinstance(node, wanted):
                yield f"{name}:{getattr(node, 'lineno', 0)}", node


def bound_names(tree):
    found = []
    for node in ast.walk(tree):
        if isinstance(node, ast.arg):
            found.append(node.arg)
        elif isinstance(node, ast.Name) and not isinstance(node.ctx, ast.Load):
            found.append(node.id)
    return found


class FilesTest(unittest.TestCase):

    def test_only_python_files(self):
        there = [path for path in PACKAGE.rglob("*") if path.is_file() and "__pycache__" not in path.parts]
        self.assertEqual(sorted(there), FILES)
        self.assertTrue((PACKAGE / "__init__.py").exists())
        for path in FILES:
            self.assertRegex(path.name, r"^[a-z_][a-z0-9_]*\.py$")

    def test_characters_and_lengths(self):
        for path in FILES:
            text = path.read_bytes()
            self.assertTrue(all(32 <= code <= 126 or code == 10 for code in text), path.name)
            rows = text.decode("ascii").splitlines()
            self.assertLess(len(rows), 400, path.name)
            self.assertLessEqual(max([len(row) for row in rows], default=0), 120, path.name)

    def test_functions_are_short(self):
        for at, node in nodes(ast.FunctionDef):
            self.assertLessEqual(node.end_lineno - node.lineno + 1, 40, at)

    def test_the_interface_is_defined_in_its_files(self):
        for file, names in INTERFACE.items():
            tree = ast.parse((PACKAGE / f"{file}.py").read_text(encoding="utf-8"))
            there = [node.name for node in tree.body if isinstance(node, (ast.FunctionDef, ast.ClassDef))]
            for name in names:
                self.assertIn(name, there)


class NamesTest(unittest.TestCase):

    def test_imports(self):
        for at, node in nodes(ast.Import):
            self.fail(at)
        for at, node in nodes(ast.ImportFrom):
            self.assertEqual(node.level, 0, at)
            for alias in node.names:
                if node.module in LIBRARY:
                    self.assertIn(alias.name, LIBRARY[node.module], at)
                    self.assertIsNone(alias.asname, at)
                else:
                    self.assertTrue(node.module.startswith("twoeach."), at)

    def test_no_file_imports_from_one_that_imports_from_it(self):
        uses = {}
        for name, tree in trees():
            uses[name[:-3]] = [node.module.partition(".")[2] for node in tree.body if isinstance(node, ast.ImportFrom)]
        done = []
        while len(done) < len(uses):
            free = [name for name in uses if name not in done
                    and all(used in done or used not in uses for used in uses[name])]
            self.assertNotEqual(free, [])
            done.extend(free)

    def test_builtins(self):
        for at, node in nodes(ast.Name):
            if node.id in BUILT_IN:
                self.assertIn(node.id, BUILTINS, at)
                self.assertIsInstance(node.ctx, ast.Load, at)

    def test_no_name_is_bound_to_a_class_or_an_import_or_a_builtin(self):
        for name, tree in trees():
            taken = [node.name for node in tree.body if isinstance(node, ast.ClassDef)]
            for node in tree.body:
                if isinstance(node, ast.ImportFrom):
                    taken.extend(alias.name for alias in node.names)
            for bound in bound_names(tree):
                self.assertFalse(bound in taken or bound in BUILT_IN, f"{name}: {bound}")

    def test_barred_words(self):
        for at, node in nodes(ast.Name):
            self.assertNotIn(node.id, BARRED, at)
        for at, node in nodes(ast.Attribute):
            self.assertNotIn(node.attr, BARRED, at)
        for path in FILES:
            self.assertIsNone(re.search("dataclass|overload|contextmanager|metaclass", path.read_text()), path.name)


class ExpressionsTest(unittest.TestCase):

    def test_literals(self):
        for at, node in nodes(ast.Constant):
            self.assertNotIsInstance(node.value, (float, complex), at)
            if isinstance(node.value, str):
                self.assertNotIn("%", node.value, at)

    def test_what_does_not_occur(self):
        barred = (ast.Div, ast.Global, ast.AsyncFunctionDef, ast.Await, ast.MatMult)
        self.assertEqual([at for at, _ in nodes(*barred)], [])

    def test_decorators(self):
        for at, node in nodes(ast.FunctionDef, ast.ClassDef):
            for decorator in node.decorator_list:
                word = decorator.attr if isinstance(decorator, ast.Attribute) else decorator.id
                self.assertIn(word, ["property", "staticmethod", "classmethod", "setter"], at)

    def test_sorted_min_and_max_take_plain_numbers_and_strings(self):
        # Kinds have an order that is none of sorting (L5 Operators); other values go through in_order.
        plain = ("len", "int", "ord", "str", "repr", "range")
        for at, node in nodes(ast.Call):
            if isinstance(node.func, ast.Name) and node.func.id in ("sorted", "min", "max") and len(node.args) == 1:
                inner = node.args[0]
                inner = inner.elt if isinstance(inner, ast.ListComp) else inner
                self.assertTrue(isinstance(inner, ast.Call) and isinstance(inner.func, ast.Name)
                                and inner.func.id in plain, at)


CHANGING = ["append", "clear", "extend", "insert", "pop", "remove", "reverse", "setdefault", "update", "add", "discard", "sort"]


def called_names(node):
    """The names of all functions, methods, classes and properties that a function may run."""
    for inner in ast.walk(node):
        if isinstance(inner, ast.Call) and isinstance(inner.func, ast.Name):
            yield inner.func.id
        elif isinstance(inner, ast.Attribute):
            yield inner.attr


def run_by_operators():
    """All functions that an operator, a property or the like may run, found by their names; not the in-place ones."""
    found = {}
    for name, tree in trees():
        for node in ast.walk(tree):
            if isinstance(node, ast.ClassDef):
                inits = [inner for inner in node.body if isinstance(inner, ast.FunctionDef) and inner.name == "__init__"]
                found.setdefault(node.name, []).extend((name, inner) for inner in inits)
            if isinstance(node, ast.FunctionDef):
                found.setdefault(node.name, []).append((name, node))
    left, done = [], {}
    for name, nodes_of in found.items():
        for file, node in nodes_of:
            is_operator = node.name.startswith("__") and node.name not in ("__init__", "__call__", "__iadd__", "__setitem__")
            is_property = [word for word in node.decorator_list if isinstance(word, ast.Name) and word.id == "property"]
            if is_operator or is_property:
                left.append((file, node))
    while left:
        file, node = left.pop()
        if id(node) not in done:
            done[id(node)] = (f"{file}:{node.lineno} {node.name}", node)
            for name in called_names(node):
                left.extend(found.get(name, []))
    return list(done.values())


def made_here(node):
    """The local names to which a function assigns lists or dicts that it makes itself."""
    made = []
    for inner in ast.walk(node):
        if isinstance(inner, ast.Assign) and isinstance(inner.value, (ast.List, ast.Dict, ast.ListComp)):
            made.extend(target.id for target in inner.targets if isinstance(target, ast.Name))
    return made


class OperatorsTest(unittest.TestCase):

    def test_operators_and_properties_change_nothing(self):
        seen = [at for at, _ in run_by_operators()]
        self.assertGreater(len(seen), 50)
        for at, node in run_by_operators():
            made = made_here(node)
            for inner in ast.walk(node):
                # A game has += of its own, so there is none of any kind (L5 Operators).
                self.assertNotIsInstance(inner, (ast.AugAssign, ast.Delete), at)
                if isinstance(inner, ast.Call) and isinstance(inner.func, ast.Attribute) and inner.func.attr in CHANGING:
                    self.assertTrue(isinstance(inner.func.value, ast.Name) and inner.func.value.id in made, at)
                if isinstance(inner, (ast.Subscript, ast.Attribute)) and isinstance(inner.ctx, ast.Store):
                    is_own = isinstance(inner.value, ast.Name) and inner.value.id in made
                    is_new = node.name == "__init__" and isinstance(inner, ast.Attribute)
                    self.assertTrue(is_own or is_new, at)

    def test_classes_with_items_are_not_iterated_over(self):
        for name, tree in trees():
            for node in ast.walk(tree):
                if isinstance(node, ast.ClassDef):
                    methods = [inner.name for inner in node.body if isinstance(inner, ast.FunctionDef)]
                    self.assertTrue("__getitem__" not in methods or "__iter__" in methods, f"{name} {node.name}")

    def test_properties_have_names_of_their_own(self):
        methods, properties = [], []
        for at, node in nodes(ast.ClassDef):
            for inner in node.body:
                if isinstance(inner, ast.FunctionDef):
                    words = [ast.unparse(word) for word in inner.decorator_list]
                    is_property = [word for word in words if word == "property" or word.endswith(".setter")]
                    (properties if is_property else methods).append(inner.name)
        self.assertEqual([name for name in properties if name in methods], [])


if __name__ == "__main__":
    unittest.main()
