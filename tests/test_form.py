"""The form of the code: the rules of the language that a test can see for this package."""

import ast
import builtins
import pathlib
import re
import unittest
import warnings

PACKAGE = pathlib.Path(__file__).resolve().parent.parent / "stagesfull"
FILES = sorted(PACKAGE.rglob("*.py"))

LIBRARY = {"heapq": {"heappush", "heappop", "heapify"}, "math": {"gcd", "lcm"},
           "itertools": {"product", "combinations", "permutations"}}
BUILTINS = {"len", "range", "enumerate", "zip", "min", "max", "sum", "abs", "sorted", "reversed", "int", "str",
            "bool", "list", "tuple", "dict", "isinstance", "ord", "repr", "any", "all", "divmod",
            "super", "property", "ValueError", "KeyError"}
METHODS = {"append", "clear", "copy", "count", "endswith", "extend", "find", "get", "index", "insert", "items",
           "isalnum", "isalpha", "isdigit", "join", "keys", "partition", "pop", "remove", "replace", "reverse",
           "setdefault", "split", "startswith", "strip", "update", "upper", "values", "lower"}
# Kinds of code that the language bars, or that the package does without.
BARRED = (ast.GeneratorExp, ast.Lambda, ast.Starred, ast.Div, ast.Pow, ast.AsyncFunctionDef, ast.Await,
          ast.Global, ast.Nonlocal, ast.With, ast.Set, ast.SetComp, ast.NamedExpr, ast.Yield,
          ast.YieldFrom, ast.Import, ast.Match, ast.AnnAssign, ast.Try)
WORDS = ("type", "typing", "enum", "namedtuple", "register", "mro", "elements", "open", "input", "law",
         "with_traceback", "add_note", "eval", "exec", "id", "vars", "dir", "os", "sys", "format")
DUNDERS = {"__init__", "__eq__", "__len__"}


def bound_names(tree):
    """All names of variables and parameters, with their files' own functions and classes."""
    for node in ast.walk(tree):
        if isinstance(node, ast.Name) and isinstance(node.ctx, ast.Store):
            yield node.id
        elif isinstance(node, ast.arg):
            yield node.arg
        elif isinstance(node, (ast.FunctionDef, ast.ClassDef)):
            yield node.name


class Form(unittest.TestCase):
    def each_tree(self):
        for path in FILES:
            yield path, ast.parse(path.read_text(encoding="ascii"))

    def test_files(self):
        self.assertTrue(FILES)
        for path in PACKAGE.rglob("*"):
            if "__pycache__" not in path.parts:
                self.assertRegex(str(path.relative_to(PACKAGE)), r"\A[a-z_][a-z0-9_]*\.py\Z")

    def test_sizes_and_characters(self):
        for path in FILES:
            text = path.read_bytes().decode("ascii")
            self.assertRegex(text, r"\A[ -~\n]*\Z", path)
            lines = text.split("\n")
            self.assertLessEqual(len(lines), 399, path)
            self.assertLessEqual(max(map(len, lines)), 120, path)

    def test_no_warnings(self):
        with warnings.catch_warnings():
            warnings.simplefilter("error")
            for path in FILES:
                compile(path.read_text(), str(path), "exec")

    def test_functions_are_short(self):
        for path, tree in self.each_tree():
            for node in ast.walk(tree):
                if isinstance(node, ast.FunctionDef):
                    self.assertLessEqual(node.end_lineno - node.lineno + 1, 40, (path, node.name))

    def test_imports(self):
        ahead = {}
        for path, tree in self.each_tree():
            ahead[path.stem] = set()
            for node in tree.body:
                if not isinstance(node, ast.ImportFrom):
                    continue
                self.assertEqual(node.level, 0)
                names = {alias.name for alias in node.names}
                self.assertTrue(all(alias.asname is None for alias in node.names))
                package, _, module = node.module.partition(".")
                if package != "stagesfull":
                    self.assertLessEqual(names, LIBRARY[node.module], path)
                    continue
                ahead[path.stem].add(module)
                other = ast.parse((PACKAGE / f"{module}.py").read_text())
                defined = {one.name for one in other.body if isinstance(one, (ast.FunctionDef, ast.ClassDef))}
                defined |= {one.targets[0].id for one in other.body if isinstance(one, ast.Assign)}
                self.assertLessEqual(names, defined, path)
        while ahead:
            free = [name for name, others in ahead.items() if not others & set(ahead)]
            self.assertTrue(free, "files import from each other")
            for name in free:
                del ahead[name]

    def test_module_level(self):
        for path, tree in self.each_tree():
            for place, node in enumerate(tree.body):
                docstring = place == 0 and isinstance(node, ast.Expr) and isinstance(node.value, ast.Constant)
                self.assertTrue(docstring or isinstance(node, (ast.ImportFrom, ast.FunctionDef, ast.ClassDef,
                                                               ast.Assign)), (path, node.lineno))

    def test_kinds_of_code(self):
        for path, tree in self.each_tree():
            for node in ast.walk(tree):
                self.assertNotIsInstance(node, BARRED, (path, getattr(node, "lineno", None)))
                if isinstance(node, ast.Constant):
                    self.assertNotIsInstance(node.value, (float, complex, bytes), path)
                if isinstance(node, ast.FormattedValue):
                    self.assertIsNone(node.format_spec)
                if isinstance(node, ast.FunctionDef):
                    self.assertIsNone(node.returns)
                    for one in node.decorator_list:
                        self.assertEqual(ast.unparse(one), "property")
                if isinstance(node, ast.Compare):
                    for sign, other in zip(node.ops, node.comparators):
                        if isinstance(sign, (ast.Is, ast.IsNot)):
                            self.assertIn(ast.unparse(other), ("None", "True", "False"), path)

    def test_names(self):
        for path, tree in self.each_tree():
            imported = {alias.name for node in tree.body if isinstance(node, ast.ImportFrom)
                        for alias in node.names}
            classes = {node.name for node in tree.body if isinstance(node, ast.ClassDef)}
            local = [name for node in ast.walk(tree) if isinstance(node, ast.FunctionDef)
                     for name in bound_names(node) if name != node.name]
            self.assertFalse(imported & set(local), path)
            self.assertFalse(classes & set(local), path)
            for name in bound_names(tree):
                self.assertNotIn(name, WORDS, path)
                if name.startswith("__"):
                    self.assertIn(name, DUNDERS, path)
                elif name != "_":
                    # A doctest that ran ahead of this one has made a builtin of _.
                    self.assertFalse(hasattr(builtins, name), (path, name))
            known = imported | set(bound_names(tree)) | BUILTINS
            for node in ast.walk(tree):
                if isinstance(node, ast.Name):
                    self.assertIn(node.id, known, path)

    def test_calls_of_methods(self):
        own = {node.name for _, tree in self.each_tree() for node in ast.walk(tree)
               if isinstance(node, ast.FunctionDef)}
        for path, tree in self.each_tree():
            for node in ast.walk(tree):
                if isinstance(node, ast.Call) and isinstance(node.func, ast.Attribute):
                    self.assertIn(node.func.attr, METHODS | own, path)

    def test_what_is_iterated_on_the_spot(self):
        """Ranges, zips, views and the like stand where they are iterated, or are kept by a name."""
        iterating = {"list", "tuple", "dict", "sorted", "sum", "min", "max", "any", "all", "enumerate", "zip"}
        for path, tree in self.each_tree():
            fitting = set()
            for node in ast.walk(tree):
                if isinstance(node, (ast.For, ast.comprehension)):
                    fitting.add(id(node.iter))
                elif isinstance(node, ast.Assign) and isinstance(node.targets[0], ast.Name):
                    fitting.add(id(node.value))
                elif isinstance(node, ast.Call) and isinstance(node.func, ast.Name):
                    of_range = isinstance(node.args[0], ast.Call) and ast.unparse(node.args[0].func) == "range" \
                        if node.args else False
                    if node.func.id in iterating or node.func.id == "reversed" and of_range:
                        fitting |= {id(one) for one in node.args}
            for node in ast.walk(tree):
                if isinstance(node, ast.Call):
                    word = getattr(node.func, "id", None) or getattr(node.func, "attr", None)
                    if word in ("range", "zip", "enumerate", "reversed", "items", "keys", "values"):
                        self.assertIn(id(node), fitting, (path, node.lineno))

    def test_methods_and_attributes(self):
        builtin = {name for kind in (str, int, list, dict, set, bytes, tuple) for name in dir(kind)}
        for path, tree in self.each_tree():
            for one in ast.walk(tree):
                if not isinstance(one, ast.ClassDef):
                    continue
                methods = [node.name for node in one.body if isinstance(node, ast.FunctionDef)]
                attributes = {node.attr for node in ast.walk(one)
                              if isinstance(node, ast.Attribute) and isinstance(node.ctx, ast.Store)}
                self.assertEqual(len(methods), len(set(methods)), one.name)
                self.assertFalse(attributes & set(methods), one.name)
                self.assertFalse((attributes | set(methods) - DUNDERS) & builtin, one.name)

    def test_what_stands_for_nothing_is_not_read(self):
        for path, tree in self.each_tree():
            for node in ast.walk(tree):
                if isinstance(node, ast.Name) and node.id == "_":
                    self.assertIsInstance(node.ctx, ast.Store, (path, node.lineno))

    def test_strings(self):
        for path, tree in self.each_tree():
            docstrings = {id(node.body[0].value) for node in ast.walk(tree)
                          if isinstance(node, (ast.Module, ast.ClassDef, ast.FunctionDef))
                          and node.body and isinstance(node.body[0], ast.Expr)}
            for node in ast.walk(tree):
                if isinstance(node, ast.Constant) and isinstance(node.value, str) and id(node) not in docstrings:
                    self.assertNotIn("%", node.value, path)
                    self.assertFalse(re.search(r"__|\btype\b|\benum\b|\bdataclass", node.value), path)


if __name__ == "__main__":
    unittest.main()
