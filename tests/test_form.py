"""What a program can check of the language subset that the package is written in.

The numbers are those of the rules of ../shared/LANGUAGE.md.
"""

import ast
import builtins
import unittest
from pathlib import Path

ROOT = Path(__file__).resolve().parent.parent
FOLDER = ROOT / "onecable"
FILES = {path.name: path.read_text(encoding="utf-8") for path in sorted(FOLDER.glob("*.py"))}
TREES = {name: ast.parse(text) for name, text in FILES.items()}

BUILTINS = """len range enumerate zip min max sum abs sorted reversed int str bool bytes list tuple dict set
frozenset isinstance ord repr any all divmod pow getattr hasattr setattr iter next super property staticmethod
classmethod map Exception ValueError TypeError KeyError IndexError LookupError ZeroDivisionError ArithmeticError
OverflowError RuntimeError NotImplementedError AttributeError StopIteration NotImplemented""".split()

DOUBLE = """init eq repr str len enter exit call iter lt le gt ge ne add sub mul floordiv mod pow and or xor lshift
rshift radd rsub rmul rfloordiv rmod rand ror rxor rlshift rrshift iadd isub imul ifloordiv imod iand ior ixor
ilshift irshift neg pos invert abs bool contains getitem setitem""".split()

LIBRARY = {
    "heapq": "heappush heappop heapify heapreplace heappushpop".split(),
    "math": "gcd lcm isqrt comb perm factorial".split(),
    "itertools": "chain accumulate pairwise islice zip_longest".split(),
    "collections": ["defaultdict"],
}

BARRED_NAMES = """register mro elements open input law version_info with_traceback add_note attrgetter breakpoint
builtins compile copyright credits delattr dir eval exec exit gc globals help id importlib license locals
methodcaller os quit type vars sys""".split()

BARRED_NODES = (ast.Global, ast.AsyncFunctionDef, ast.Await, ast.AsyncFor, ast.AsyncWith, ast.Div, ast.MatMult,
                ast.Import)


def nodes(*kinds):
    return [(name, node) for name, tree in TREES.items() for node in ast.walk(tree) if isinstance(node, kinds)]


def bound_names():
    found = [(name, node.id) for name, node in nodes(ast.Name) if isinstance(node.ctx, ast.Store)]
    found += [(name, node.arg) for name, node in nodes(ast.arg)]
    found += [(name, node.name) for name, node in nodes(ast.FunctionDef, ast.ClassDef)]
    return found


def is_number(node):
    """True if the expression is plainly a number, a call of int or len."""
    return isinstance(node, ast.Call) and isinstance(node.func, ast.Name) and node.func.id in ("int", "len")


def is_plain(call):
    """True if what the call of sorted, min or max compares is plainly numbers."""
    keys = [keyword.value.id for keyword in call.keywords
            if keyword.arg == "key" and isinstance(keyword.value, ast.Name)]
    first = call.args[0]
    if isinstance(first, ast.ListComp):
        return is_number(first.elt)
    if isinstance(first, ast.List):
        return all(is_number(part) for part in first.elts)
    return keys in (["int"], ["len"]) or len(call.args) == 2 and isinstance(first, ast.Constant)


class Class:
    """What a class of the package has, by the names."""

    def __init__(self, node):
        self.name = node.name
        self.bases = [base.id for base in node.bases]
        functions = [part for part in node.body if isinstance(part, ast.FunctionDef)]
        self.properties = {part.name for part in functions if "property" in decorators(part)}
        self.methods = {part.name for part in functions} - self.properties
        self.attributes = {part.attr for part in ast.walk(node)
                           if isinstance(part, ast.Attribute) and isinstance(part.ctx, ast.Store)}

    def family(self):
        """The class and those above it."""
        return [self] + [above for base in self.bases if base in CLASSES for above in CLASSES[base].family()]


def decorators(node):
    return [decorator.id for decorator in node.decorator_list if isinstance(decorator, ast.Name)]


CLASSES = {node.name: Class(node) for _, node in nodes(ast.ClassDef)}


class Files(unittest.TestCase):
    def test_folder(self):
        found = sorted(path.name for path in FOLDER.iterdir() if path.name != "__pycache__")
        self.assertEqual(found, sorted(FILES))
        self.assertIn("__init__.py", found)

    def test_sizes_and_characters(self):
        for name, text in FILES.items():
            lines = text.split("\n")
            self.assertLessEqual(len(lines), 399, name)
            self.assertLessEqual(max(len(line) for line in lines), 120, name)
            self.assertTrue(all(mark == "\n" or " " <= mark <= "~" for mark in text), name)
            self.assertNotIn("_wall", text, name)

    def test_functions_are_short(self):
        for name, node in nodes(ast.FunctionDef):
            self.assertLessEqual(node.end_lineno - node.lineno + 1, 40, f"{name} {node.name}")


class Statements(unittest.TestCase):
    def test_module_level(self):
        allowed = (ast.ImportFrom, ast.FunctionDef, ast.ClassDef, ast.Assign)
        for name, tree in TREES.items():
            for statement in tree.body[1:]:
                self.assertIsInstance(statement, allowed, f"{name} {statement.lineno}")
            self.assertIsNotNone(ast.get_docstring(tree), name)

    def test_imports(self):
        for name, node in nodes(ast.ImportFrom):
            self.assertEqual(node.level, 0, name)
            for alias in node.names:
                self.assertIsNone(alias.asname, name)
                if node.module in LIBRARY:
                    self.assertIn(alias.name, LIBRARY[node.module], name)
                else:
                    self.assertDefined(node.module, alias.name)

    def assertDefined(self, module, wanted):
        package, file = module.split(".")
        self.assertEqual(package, "onecable")
        tree = TREES[file + ".py"]
        defined = [node.name for node in tree.body if isinstance(node, (ast.FunctionDef, ast.ClassDef))]
        defined += [target.id for node in tree.body if isinstance(node, ast.Assign) for target in node.targets]
        self.assertIn(wanted, defined)

    def test_no_circle_of_imports(self):
        imported = {name: {node.module.split(".")[1] + ".py" for node in ast.walk(tree)
                           if isinstance(node, ast.ImportFrom) and node.module.startswith("onecable.")}
                    for name, tree in TREES.items()}
        left = set(imported)
        while left:
            ready = {name for name in left if not imported[name] & left}
            self.assertNotEqual(ready, set(), f"a circle among {sorted(left)}")
            left -= ready

    def test_barred_statements(self):
        self.assertEqual([(name, node) for name, node in nodes(*BARRED_NODES)], [])

    def test_decorators(self):
        for name, node in nodes(ast.FunctionDef, ast.ClassDef):
            for decorator in node.decorator_list:
                if isinstance(decorator, ast.Attribute):
                    self.assertEqual(decorator.attr, "setter", name)
                else:
                    self.assertIn(decorator.id, ("property", "staticmethod", "classmethod"), name)

    def test_errors_are_caught_by_name(self):
        for name, node in nodes(ast.ExceptHandler):
            self.assertIsNotNone(node.type, f"{name} {node.lineno}")


class Names(unittest.TestCase):
    def test_builtins(self):
        for name, node in nodes(ast.Name):
            if hasattr(builtins, node.id):
                self.assertIn(node.id, BUILTINS, f"{name} {node.lineno}")

    def test_no_builtin_is_bound(self):
        for name, bound in bound_names():
            if not bound.startswith("__"):
                self.assertFalse(hasattr(builtins, bound), f"{name} {bound}")
            self.assertNotIn(bound, BARRED_NAMES, name)

    def test_double_underscores(self):
        for name, bound in bound_names():
            if bound.startswith("__"):
                self.assertIn(bound, [f"__{word}__" for word in DOUBLE], name)

    def test_plain_names(self):
        for name, bound in bound_names():
            self.assertTrue(bound.isascii(), f"{name} {bound}")


class Classes(unittest.TestCase):
    def test_no_name_is_a_method_and_an_attribute(self):
        for name, one in CLASSES.items():
            attributes = set().union(*[above.attributes for above in one.family()])
            methods = set().union(*[above.methods | above.properties for above in one.family()])
            self.assertEqual(attributes & methods, set(), name)

    def test_a_property_shares_its_name_with_no_method_and_no_attribute(self):
        properties = set().union(*[one.properties for one in CLASSES.values()])
        for name, one in CLASSES.items():
            self.assertEqual(properties & (one.methods | one.attributes), set(), name)

    def test_attributes_that_are_read_are_assigned(self):
        known = set().union(*[one.methods | one.properties | one.attributes for one in CLASSES.values()])
        known |= {target.id for _, node in nodes(ast.ClassDef) for part in node.body if isinstance(part, ast.Assign)
                  for target in part.targets}
        for name, node in nodes(ast.Attribute):
            built_in = any(hasattr(kind, node.attr) for kind in (str, list, dict, tuple, set, int))
            self.assertTrue(node.attr in known or built_in or node.attr == "__init__", f"{name} {node.attr}")

    def test_len_returns_a_len(self):
        for name, node in nodes(ast.FunctionDef):
            if node.name == "__len__":
                self.assertTrue(all(is_number(part.value) for part in ast.walk(node) if isinstance(part, ast.Return)))

    def test_is_stands_beside_none_only(self):
        for name, node in nodes(ast.Compare):
            for operator, right in zip(node.ops, node.comparators):
                if isinstance(operator, (ast.Is, ast.IsNot)):
                    self.assertTrue(isinstance(right, ast.Constant) and right.value in (None, True, False),
                                    f"{name} {node.lineno}")

    def test_only_own_errors_are_caught(self):
        for name, node in nodes(ast.ExceptHandler):
            self.assertIn(node.type.id, CLASSES, f"{name} {node.lineno}")


class Values(unittest.TestCase):
    def test_no_floats(self):
        for name, node in nodes(ast.Constant):
            self.assertNotIsInstance(node.value, (float, complex), f"{name} {node.lineno}")

    def test_strings(self):
        for name, node in nodes(ast.Constant):
            if isinstance(node.value, str):
                self.assertNotIn("%", node.value, f"{name} {node.lineno}")

    def test_no_generator_expressions(self):
        # Classes of the package have an __eq__, so any, all, min, max, sum and sorted take lists (L7).
        self.assertEqual([name for name, _ in nodes(ast.GeneratorExp)], [])

    def test_sorted_min_and_max_take_plain_numbers(self):
        # A class of the package has an order (L5): so key=int, int(..) of each member, or one plain number of two.
        for name, node in nodes(ast.Call):
            if isinstance(node.func, ast.Name) and node.func.id in ("sorted", "min", "max"):
                self.assertTrue(is_plain(node), f"{name} {node.lineno}")

    def test_getitem_goes_with_iter(self):
        for name, node in nodes(ast.ClassDef):
            methods = [part.name for part in node.body if isinstance(part, ast.FunctionDef)]
            if "__getitem__" in methods:
                self.assertIn("__iter__", methods, f"{name} {node.name}")

    def test_no_sort_in_place(self):
        for name, node in nodes(ast.Attribute):
            self.assertNotIn(node.attr, ("sort", "format", "mro", "args"), f"{name} {node.lineno}")


if __name__ == "__main__":
    unittest.main()
