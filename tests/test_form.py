"""The form of the code: those rules for the files of the package that are easily seen."""
import ast
import builtins
import pathlib
import unittest

ROOT = pathlib.Path(__file__).resolve().parent.parent / "wordlaws"
FILES = sorted(ROOT.rglob("*.py"))
ALLOWED = """
len range enumerate zip min max sum abs sorted reversed int str bool bytes list tuple dict set frozenset isinstance
ord repr any all divmod Exception ValueError TypeError KeyError IndexError LookupError ZeroDivisionError
ArithmeticError OverflowError RuntimeError NotImplementedError NotImplemented type
""".split()
BARRED = """
register mro elements open input law version_info with_traceback add_note attrgetter breakpoint builtins compile
copyright credits delattr dir eval exec exit gc getattr globals hasattr help id importlib license locals methodcaller
os quit setattr super vars sys
""".split()
LIBRARY = {"heapq", "math", "itertools", "collections"}
DECORATORS = ("property", "staticmethod", "classmethod")
# What takes a list in place of a generator expression, as a class of the package has an __eq__.
LIST_TAKERS = ("any", "all", "min", "max", "sum", "sorted")


def name_of(path):
    parts = ("wordlaws",) + path.relative_to(ROOT).with_suffix("").parts
    return ".".join(parts[:-1] if parts[-1] == "__init__" else parts)


TREES = {name_of(path): ast.parse(path.read_text()) for path in FILES}


def nodes(*kinds):
    for module, tree in TREES.items():
        for node in ast.walk(tree):
            if isinstance(node, kinds):
                yield f"{module} line {getattr(node, 'lineno', 0)}", node


def bound_names(tree):
    """The names that functions, classes and assignments at module level bind."""
    for node in tree.body:
        if isinstance(node, (ast.FunctionDef, ast.ClassDef)):
            yield node.name
        elif isinstance(node, ast.Assign):
            yield from (target.id for target in node.targets)


class Files(unittest.TestCase):
    def test_folder(self):
        self.assertGreater(len(FILES), 5)
        for path in ROOT.rglob("*"):
            if "__pycache__" not in path.parts:
                self.assertTrue(path.is_dir() or path.suffix == ".py", path)
                self.assertRegex(path.name, r"\A[a-z_]+(\.py)?\Z")
                self.assertFalse(path.is_dir() and not (path / "__init__.py").exists(), path)

    def test_characters_and_lines(self):
        for path in FILES:
            text = path.read_text()
            self.assertTrue(all(" " <= sign <= "~" or sign == "\n" for sign in text), path)
            lines = text.splitlines()
            self.assertLessEqual(len(lines), 399, path)
            self.assertLessEqual(max(map(len, lines), default=0), 120, path)

    def test_functions(self):
        for told, node in nodes(ast.FunctionDef):
            self.assertLessEqual(node.end_lineno - node.lineno + 1, 40, told)
            for decorator in node.decorator_list:
                setter = isinstance(decorator, ast.Attribute) and decorator.attr == "setter"
                self.assertTrue(setter or decorator.id in DECORATORS, told)

    def test_module_level(self):
        kinds = (ast.Expr, ast.ImportFrom, ast.FunctionDef, ast.ClassDef, ast.Assign)
        for module, tree in TREES.items():
            names = list(bound_names(tree))
            self.assertEqual(len(names), len(set(names)), module)
            for node in tree.body:
                self.assertIsInstance(node, kinds, module)


class Imports(unittest.TestCase):
    def test_from_the_file_that_defines_the_name(self):
        for told, node in nodes(ast.ImportFrom):
            self.assertEqual(node.level, 0, told)
            if node.module not in LIBRARY:
                self.assertIn(node.module, TREES, told)
                for alias in node.names:
                    self.assertIn(alias.name, list(bound_names(TREES[node.module])), told)

    def test_no_other_imports(self):
        self.assertEqual([told for told, _ in nodes(ast.Import)], [])

    def test_no_circle(self):
        links = {
            module: {node.module for node in tree.body if isinstance(node, ast.ImportFrom)} & set(TREES)
            for module, tree in TREES.items()
        }
        done = set()
        while len(done) < len(links):
            ready = [module for module in links if module not in done and links[module] <= done]
            self.assertTrue(ready, sorted(set(links) - done))
            done.update(ready)

    def test_all_imports_are_used(self):
        for module, tree in TREES.items():
            used = {node.id for node in ast.walk(tree) if isinstance(node, ast.Name)}
            for node in tree.body:
                if isinstance(node, ast.ImportFrom):
                    self.assertLessEqual({alias.name for alias in node.names}, used, module)


class Names(unittest.TestCase):
    def test_builtins(self):
        for told, node in nodes(ast.Name):
            if isinstance(node.ctx, ast.Load) and hasattr(builtins, node.id):
                self.assertIn(node.id, ALLOWED + list(DECORATORS), told)

    def test_bindings(self):
        for module, tree in TREES.items():
            imports = {alias.name for node in tree.body if isinstance(node, ast.ImportFrom) for alias in node.names}
            classes = {node.name for node in tree.body if isinstance(node, ast.ClassDef)}
            for node in ast.walk(tree):
                bound = [node.arg] if isinstance(node, ast.arg) else []
                if isinstance(node, ast.Name) and isinstance(node.ctx, ast.Store):
                    bound = [node.id]
                for name in bound:
                    # Doctest makes "_" a builtin.
                    self.assertFalse(name != "_" and hasattr(builtins, name) or name in BARRED, (module, name))
                    self.assertFalse(name in imports or name in classes, (module, name))

    def test_barred_names(self):
        for told, node in nodes(ast.FunctionDef, ast.ClassDef, ast.Attribute, ast.keyword):
            name = getattr(node, "name", None) or getattr(node, "attr", None) or getattr(node, "arg", None)
            self.assertNotIn(name, BARRED, told)


class Expressions(unittest.TestCase):
    def test_no_generator_expression_where_a_list_is_asked_for(self):
        for told, node in nodes(ast.Call):
            if isinstance(node.func, ast.Name) and node.func.id in LIST_TAKERS:
                self.assertFalse(any(isinstance(arg, ast.GeneratorExp) for arg in node.args), told)

    def test_views_and_sets_are_used_on_the_spot(self):
        """Ranges, zips and views stand behind `in` or in a call that iterates; sets in sorted, len or a comparison."""
        takers = ("list", "tuple", "dict", "sorted", "sum", "any", "all", "enumerate", "zip", "min", "max", "len", "reversed")
        for module, tree in TREES.items():
            parents = {child: node for node in ast.walk(tree) for child in ast.iter_child_nodes(node)}
            for node in ast.walk(tree):
                if not isinstance(node, ast.Call):
                    continue
                name = getattr(node.func, "id", None) or getattr(node.func, "attr", None)
                above = parents[node]
                called = above.func.id if isinstance(above, ast.Call) and isinstance(above.func, ast.Name) else None
                told = f"{module} line {node.lineno}"
                if name in ("range", "zip", "enumerate", "reversed", "items", "keys", "values"):
                    iterated = isinstance(above, (ast.For, ast.comprehension)) and above.iter is node
                    self.assertTrue(iterated or called in takers, told)
                if name == "set":
                    self.assertTrue(called in ("sorted", "len") or isinstance(above, ast.Compare), told)

    def test_what_is_compared_by_is(self):
        for told, node in nodes(ast.Compare):
            if any(isinstance(sign, (ast.Is, ast.IsNot)) for sign in node.ops):
                of_class = isinstance(node.left, ast.Call) and node.left.func.id == "type"
                self.assertTrue(of_class or isinstance(node.comparators[0], ast.Constant), told)

    def test_no_floats_and_no_sets_of_numbers(self):
        for told, node in nodes(ast.Constant, ast.Div, ast.Set, ast.Pow):
            self.assertFalse(isinstance(node, (ast.Div, ast.Pow)), told)
            self.assertFalse(isinstance(node, ast.Constant) and isinstance(node.value, float), told)
            self.assertFalse(isinstance(node, ast.Set) and len(node.elts) > 2, told)

    def test_no_percent_sign_in_strings(self):
        docstrings = {
            id(node.body[0].value) for _, node in nodes(ast.Module, ast.FunctionDef, ast.ClassDef)
            if node.body and isinstance(node.body[0], ast.Expr)
        }
        for told, node in nodes(ast.Constant):
            if isinstance(node.value, str) and id(node) not in docstrings:
                self.assertNotIn("%", node.value, told)

    def test_statements_that_are_not_used(self):
        barred = (ast.Try, ast.Global, ast.Match, ast.AsyncFunctionDef, ast.With)
        self.assertEqual([told for told, _ in nodes(*barred)], [])
