"""What a program can check of the language subset that the package is written in.

The numbers are those of the rules of ../shared/LANGUAGE.md.
"""

import ast
import builtins
import unittest
from pathlib import Path

ROOT = Path(__file__).resolve().parent.parent
FOLDER = ROOT / "onecable"
FILES = {path.name: path.read_text(encoding="utf-8") for path in sorted(FOLDER.glob("*.py"))}
TREES = {name: ast.parse(text) for name, text in FILES.items()}

BUILTINS = """len range enumerate zip min max sum abs sorted reversed int str bool bytes list tuple dict set
frozenset isinstance ord repr any all divmod pow getattr hasattr setattr iter next super property staticmethod
classmethod map Exception ValueError TypeError KeyError IndexError LookupError ZeroDivisionError ArithmeticError
OverflowError RuntimeError NotImplementedError AttributeError StopIteration NotImplemented""".split()

DOUBLE = """init eq repr str len enter exit call iter lt le gt ge ne add sub mul floordiv mod pow and or xor lshift
rshift radd rsub rmul rfloordiv rmod rand ror rxor rlshift rrshift iadd isub imul ifloordiv imod iand ior ixor
ilshift irshift neg pos invert abs bool contains getitem setitem""".split()

LIBRARY = {
    "heapq": "heappush heappop heapify heapreplace heappushpop".split(),
    "math": "gcd lcm isqrt comb perm factorial".split(),
    "itertools": "chain accumulate pairwise islice zip_longest".split(),
    "collections": ["defaultdict"],
}

BARRED_NAMES = """register mro elements open input law version_info with_traceback add_note attrgetter breakpoint
builtins compile copyright credits delattr dir eval exec exit gc globals help id importlib license locals
methodcaller os quit type vars sys""".split()

BARRED_NODES = (ast.Global, ast.AsyncFunctionDef, ast.Await, ast.AsyncFor, ast.AsyncWith, ast.Div, ast.MatMult,
                ast.Import)

SEEN_THROUGH = ["enumerate", "zip", "reversed"]

VIEWS = ["items", "keys", "values"]

CHANGING = "append clear extend insert pop remove reverse setdefault sort update add discard".split()


def nodes(*kinds):
    return [(name, node) for name, tree in TREES.items() for node in ast.walk(tree) if isinstance(node, kinds)]


def bound_names():
    found = [(name, node.id) for name, node in nodes(ast.Name) if isinstance(node.ctx, ast.Store)]
    found += [(name, node.arg) for name, node in nodes(ast.arg)]
    found += [(name, node.name) for name, node in nodes(ast.FunctionDef, ast.ClassDef)]
    return found


def is_number(node):
    """True if the expression is plainly a number, a call of int or len."""
    return isinstance(node, ast.Call) and isinstance(node.func, ast.Name) and node.func.id in ("int", "len")


def is_plain(call):
    """True if what the call of sorted, min or max compares is plainly numbers."""
    keys = [keyword.value.id for keyword in call.keywords
            if keyword.arg == "key" and isinstance(keyword.value, ast.Name)]
    first = call.args[0]
    if isinstance(first, ast.ListComp):
        return is_number(first.elt)
    if isinstance(first, ast.List):
        return all(is_number(part) for part in first.elts)
    return keys in (["int"], ["len"]) or len(call.args) == 2 and isinstance(first, ast.Constant)


def parts_of(node):
    """The plain names, fields and items of which the expression may be one: several for a choice."""
    if isinstance(node, ast.IfExp):
        return parts_of(node.body) + parts_of(node.orelse)
    if isinstance(node, ast.BoolOp):
        return [part for value in node.values for part in parts_of(value)]
    if isinstance(node, (ast.Name, ast.Attribute, ast.Subscript)):
        return [ast.unparse(node)]
    return []


def walked(node):
    """What a loop over the expression walks: also through enumerate, zip, reversed and the views of a dict."""
    if isinstance(node, ast.Call) and isinstance(node.func, ast.Name) and node.func.id in SEEN_THROUGH:
        return [part for argument in node.args for part in walked(argument)]
    if isinstance(node, ast.Call) and isinstance(node.func, ast.Attribute) and node.func.attr in VIEWS:
        return parts_of(node.func.value)
    return parts_of(node)


def changed(node):
    """What the statement or call changes in place."""
    if isinstance(node, ast.Subscript) and not isinstance(node.ctx, ast.Load):
        return parts_of(node.value)
    if isinstance(node, ast.AugAssign):
        return parts_of(node.target)
    if isinstance(node, ast.Call) and isinstance(node.func, ast.Attribute) and node.func.attr in CHANGING:
        return parts_of(node.func.value)
    return []


def names_in_common(function):
    """For each name in the function those that it shares a value with by plain assignments, itself included."""
    shared = {}
    for node in ast.walk(function):
        if isinstance(node, ast.Assign):
            for part in [part for target in node.targets for part in parts_of(target)]:
                for other in parts_of(node.value):
                    both = shared.get(part, {part}) | shared.get(other, {other})
                    shared.update({name: both for name in both})
    return shared


def walked_and_changed(function):
    """The rows in which a loop of the function changes what it walks, by any name that stands for it."""
    shared = names_in_common(function)
    rows = []
    for loop in [node for node in ast.walk(function) if isinstance(node, ast.For)]:
        names = set().union(*[shared.get(part, {part}) for part in walked(loop.iter)])
        rows += [node.lineno for row in loop.body for node in ast.walk(row) if names & set(changed(node))]
    return sorted(rows)


class Class:
    """What a class of the package has, by the names."""

    def __init__(self, node):
        self.name = node.name
        self.bases = [base.id for base in node.bases]
        functions = [part for part in node.body if isinstance(part, ast.FunctionDef)]
        self.properties = {part.name for part in functions if "property" in decorators(part)}
        self.methods = {part.name for part in functions} - self.properties
        self.attributes = {part.attr for part in ast.walk(node)
                           if isinstance(part, ast.Attribute) and isinstance(part.ctx, ast.Store)}

    def family(self):
        """The class and those above it."""
        return [self] + [above for base in self.bases if base in CLASSES for above in CLASSES[base].family()]


def decorators(node):
    return [decorator.id for decorator in node.decorator_list if isinstance(decorator, ast.Name)]


CLASSES = {node.name: Class(node) for _, node in nodes(ast.ClassDef)}


class Files(unittest.TestCase):
    def test_folder(self):
        found = sorted(path.name for path in FOLDER.iterdir() if path.name != "__pycache__")
        self.assertEqual(found, sorted(FILES))
        self.assertIn("__init__.py", found)

    def test_sizes_and_characters(self):
        for name, text in FILES.items():
            lines = text.split("\n")
            self.assertLessEqual(len(lines), 399, name)
            self.assertLessEqual(max(len(line) for line in lines), 120, name)
            self.assertTrue(all(mark == "\n" or " " <= mark <= "~" for mark in text), name)
            self.assertNotIn("_wall", text, name)

    def test_functions_are_short(self):
        for name, node in nodes(ast.FunctionDef):
            self.assertLessEqual(node.end_lineno - node.lineno + 1, 40, f"{name} {node.name}")


class Statements(unittest.TestCase):
    def test_module_level(self):
        allowed = (ast.ImportFrom, ast.FunctionDef, ast.ClassDef, ast.Assign)
        for name, tree in TREES.items():
            for statement in tree.body[1:]:
                self.assertIsInstance(statement, allowed, f"{name} {statement.lineno}")
            self.assertIsNotNone(ast.get_docstring(tree), name)

    def test_imports(self):
        for name, node in nodes(ast.ImportFrom):
            self.assertEqual(node.level, 0, name)
            for alias in node.names:
                self.assertIsNone(alias.asname, name)
                if node.module in LIBRARY:
                    self.assertIn(alias.name, LIBRARY[node.module], name)
                else:
                    self.assertDefined(node.module, alias.name)

    def assertDefined(self, module, wanted):
        package, file = module.split(".")
        self.assertEqual(package, "onecable")
        tree = TREES[file + ".py"]
        defined = [node.name for node in tree.body if isinstance(node, (ast.FunctionDef, ast.ClassDef))]
        defined += [target.id for node in tree.body if isinstance(node, ast.Assign) for target in node.targets]
        self.assertIn(wanted, defined)

    def test_no_circle_of_imports(self):
        imported = {name: {node.module.split(".")[1] + ".py" for node in ast.walk(tree)
                           if isinstance(node, ast.ImportFrom) and node.module.startswith("onecable.")}
                    for name, tree in TREES.items()}
        left = set(imported)
        while left:
            ready = {name for name in left if not imported[name] & left}
            self.assertNotEqual(ready, set(), f"a circle among {sorted(left)}")
            left -= ready

    def test_barred_statements(self):
        self.assertEqual([(name, node) for name, node in nodes(*BARRED_NODES)], [])

    def test_decorators(self):
        for name, node in nodes(ast.FunctionDef, ast.ClassDef):
            for decorator in node.decorator_list:
                if isinstance(decorator, ast.Attribute):
                    self.assertEqual(decorator.attr, "setter", name)
                else:
                    self.assertIn(decorator.id, ("property", "staticmethod", "classmethod"), name)

    def test_errors_are_caught_by_name(self):
        for name, node in nodes(ast.ExceptHandler):
            self.assertIsNotNone(node.type, f"{name} {node.lineno}")


class Names(unittest.TestCase):
    def test_builtins(self):
        for name, node in nodes(ast.Name):
            if hasattr(builtins, node.id):
                self.assertIn(node.id, BUILTINS, f"{name} {node.lineno}")

    def test_no_builtin_is_bound(self):
        for name, bound in bound_names():
            if not bound.startswith("__"):
                self.assertFalse(hasattr(builtins, bound), f"{name} {bound}")
            self.assertNotIn(bound, BARRED_NAMES, name)

    def test_double_underscores(self):
        for name, bound in bound_names():
            if bound.startswith("__"):
                self.assertIn(bound, [f"__{word}__" for word in DOUBLE], name)

    def test_plain_names(self):
        for name, bound in bound_names():
            self.assertTrue(bound.isascii(), f"{name} {bound}")


class Classes(unittest.TestCase):
    def test_no_name_is_a_method_and_an_attribute(self):
        for name, one in CLASSES.items():
            attributes = set().union(*[above.attributes for above in one.family()])
            methods = set().union(*[above.methods | above.properties for above in one.family()])
            self.assertEqual(attributes & methods, set(), name)

    def test_a_property_shares_its_name_with_no_method_and_no_attribute(self):
        properties = set().union(*[one.properties for one in CLASSES.values()])
        for name, one in CLASSES.items():
            self.assertEqual(properties & (one.methods | one.attributes), set(), name)

    def test_attributes_that_are_read_are_assigned(self):
        known = set().union(*[one.methods | one.properties | one.attributes for one in CLASSES.values()])
        known |= {target.id for _, node in nodes(ast.ClassDef) for part in node.body if isinstance(part, ast.Assign)
                  for target in part.targets}
        for name, node in nodes(ast.Attribute):
            built_in = any(hasattr(kind, node.attr) for kind in (str, list, dict, tuple, set, int))
            self.assertTrue(node.attr in known or built_in or node.attr == "__init__", f"{name} {node.attr}")

    def test_len_returns_a_len(self):
        for name, node in nodes(ast.FunctionDef):
            if node.name == "__len__":
                self.assertTrue(all(is_number(part.value) for part in ast.walk(node) if isinstance(part, ast.Return)))

    def test_is_stands_beside_none_only(self):
        for name, node in nodes(ast.Compare):
            for operator, right in zip(node.ops, node.comparators):
                if isinstance(operator, (ast.Is, ast.IsNot)):
                    self.assertTrue(isinstance(right, ast.Constant) and right.value in (None, True, False),
                                    f"{name} {node.lineno}")

    def test_only_own_errors_are_caught(self):
        for name, node in nodes(ast.ExceptHandler):
            self.assertIn(node.type.id, CLASSES, f"{name} {node.lineno}")


class Loops(unittest.TestCase):
    def test_no_loop_changes_what_it_walks(self):
        # L23: also where the list that is changed gets the name of the one that is walked after the loop.
        for name, node in nodes(ast.FunctionDef):
            self.assertEqual(walked_and_changed(node), [], f"{name} {node.name}")

    def test_what_the_test_above_finds(self):
        for text, rows in (
            ("for x in xs:\n  xs.append(x)", [3]),
            ("for x in list(xs):\n  xs.append(x)", []),
            ("for k, x in enumerate(xs):\n  xs[k] = x", [3]),
            ("for x, y in zip(ys, xs):\n  del xs[0]", [3]),
            ("for k in d.keys():\n  d.pop(k)", [3]),
            ("for x in xs or ys:\n  ys += [x]", [3]),
            ("for x in self.rows:\n  self.rows.append(x)", [3]),
            ("rows = self.rows\nfor x in self.rows:\n  rows.append(x)", [4]),
            ("for x in xs:\n  ys.append(x)", []),
            ("while xs:\n  ys = []\n  for x in xs:\n    ys.append(x)\n  xs = ys", [5]),
            ("while xs:\n  ys = []\n  for x in xs:\n    ys.append(x)\n  zs = ys\n  xs = zs", [5]),
            ("while xs:\n  ys = []\n  for x in xs:\n    ys.append(x)\n  xs = list(ys)", []),
        ):
            lines = "\n".join("  " + line for line in text.split("\n"))
            [function] = ast.parse("def f(self, xs, ys, d):\n" + lines).body
            self.assertEqual(walked_and_changed(function), rows, text)


class Values(unittest.TestCase):
    def test_no_floats(self):
        for name, node in nodes(ast.Constant):
            self.assertNotIsInstance(node.value, (float, complex), f"{name} {node.lineno}")

    def test_strings(self):
        for name, node in nodes(ast.Constant):
            if isinstance(node.value, str):
                self.assertNotIn("%", node.value, f"{name} {node.lineno}")

    def test_no_generator_expressions(self):
        # Classes of the package have an __eq__, so any, all, min, max, sum and sorted take lists (L7).
        self.assertEqual([name for name, _ in nodes(ast.GeneratorExp)], [])

    def test_sorted_min_and_max_take_plain_numbers(self):
        # A class of the package has an order (L5): so key=int, int(..) of each member, or one plain number of two.
        for name, node in nodes(ast.Call):
            if isinstance(node.func, ast.Name) and node.func.id in ("sorted", "min", "max"):
                self.assertTrue(is_plain(node), f"{name} {node.lineno}")

    def test_getitem_goes_with_iter(self):
        for name, node in nodes(ast.ClassDef):
            methods = [part.name for part in node.body if isinstance(part, ast.FunctionDef)]
            if "__getitem__" in methods:
                self.assertIn("__iter__", methods, f"{name} {node.name}")

    def test_no_sort_in_place(self):
        for name, node in nodes(ast.Attribute):
            self.assertNotIn(node.attr, ("sort", "format", "mro", "args"), f"{name} {node.lineno}")


if __name__ == "__main__":
    unittest.main()
