"""Those rules of the language that can be read off the files of the package one by one."""

import ast
import pathlib
import re
import unittest

PACKAGE = pathlib.Path(__file__).resolve().parent.parent / "spoiltline"
BUILTINS = {"len", "range", "enumerate", "zip", "min", "max", "sum", "abs", "sorted", "reversed", "int", "str", "bool",
            "list", "tuple", "dict", "isinstance", "ord", "any", "all", "divmod", "Exception"}
BARRED = (ast.Set, ast.SetComp, ast.GeneratorExp, ast.AsyncFunctionDef, ast.Await, ast.Global, ast.Div, ast.Yield,
          ast.YieldFrom, ast.With, ast.Match, ast.NamedExpr, ast.Nonlocal, ast.Delete, ast.Assert, ast.AnnAssign)
VIEWS = ("items", "keys", "values")
# What may be imported from elsewhere [L2].
LIBRARY = {"math": {"gcd", "lcm"}}
# What strings, numbers, lists, dicts, sets and bytes have, but for what L25 and L26 leave free.
BUILTIN_METHODS = {name for kind in (str, int, list, dict, set, bytes) for name in dir(kind)} - {
    "count", "index", "title", "find", "get", "join", "lower", "upper", "split", "strip", "copy", "add", "discard"}


def sources():
    return sorted(path for path in PACKAGE.rglob("*") if "__pycache__" not in path.parts)


def imported(tree):
    """The imports from files of the package."""
    return [node for node in tree.body if isinstance(node, ast.ImportFrom) and node.module not in LIBRARY]


def functions(tree):
    return [node for node in ast.walk(tree) if isinstance(node, ast.FunctionDef)]


class Files(unittest.TestCase):
    def test_only_plain_python_files(self):
        self.assertTrue(len(sources()) > 1)
        for path in sources():
            self.assertRegex(path.name, "^[a-z_][a-z0-9_]*[.]py$")

    def test_characters_and_sizes(self):
        for path in sources():
            data = path.read_bytes()
            self.assertTrue(all(code == 10 or 32 <= code <= 126 for code in data), path)
            lines = data.decode("ascii").split("\n")
            self.assertTrue(len(lines) <= 400 and max(len(line) for line in lines) <= 120, path)
            for node in ast.walk(ast.parse(data)):
                if isinstance(node, ast.Constant) and isinstance(node.value, str):
                    self.assertNotIn("%", node.value, path)

    def test_functions_are_small(self):
        for path in sources():
            for node in functions(ast.parse(path.read_text())):
                self.assertTrue(node.end_lineno - node.lineno < 40, (path, node.name))


class Statements(unittest.TestCase):
    def nodes(self, *kinds):
        for path in sources():
            for node in ast.walk(ast.parse(path.read_text())):
                if isinstance(node, kinds):
                    yield path, node

    def test_module_level(self):
        allowed = (ast.ImportFrom, ast.FunctionDef, ast.ClassDef, ast.Assign, ast.Expr)
        for path, tree in self.nodes(ast.Module):
            for node in tree.body:
                self.assertIsInstance(node, allowed, path)
            names = [node.name for node in tree.body if isinstance(node, (ast.FunctionDef, ast.ClassDef))]
            names += [alias.name for node in tree.body if isinstance(node, ast.ImportFrom) for alias in node.names]
            self.assertEqual(len(names), len(set(names)), path)

    def test_imports(self):
        for path, node in self.nodes(ast.Import, ast.ImportFrom):
            self.assertIsInstance(node, ast.ImportFrom, path)
            self.assertEqual(node.level, 0, path)
            self.assertTrue(all(alias.asname is None and alias.name != "*" for alias in node.names), path)
            if node.module in LIBRARY:
                self.assertLessEqual({alias.name for alias in node.names}, LIBRARY[node.module], path)
            else:
                self.assertTrue(node.module.startswith("spoiltline."), path)

    def test_nothing_barred(self):
        self.assertEqual([(path.name, node.lineno) for path, node in self.nodes(*BARRED)], [])

    def test_is_stands_beside_none_true_and_false(self):
        for path, node in self.nodes(ast.Compare):
            for sign, side in zip(node.ops, node.comparators):
                if isinstance(sign, (ast.Is, ast.IsNot)):
                    self.assertIsInstance(side, ast.Constant, (path, node.lineno))

    def test_what_is_called_by_its_name_is_known(self):
        for path in sources():
            tree = ast.parse(path.read_text())
            own = {node.name for node in ast.walk(tree) if isinstance(node, (ast.FunctionDef, ast.ClassDef))}
            own |= {alias.name for node in tree.body if isinstance(node, ast.ImportFrom) for alias in node.names}
            for function in functions(tree):
                known = own | BUILTINS | {node.arg for node in ast.walk(function) if isinstance(node, ast.arg)}
                for node in ast.walk(function):
                    if isinstance(node, ast.Call) and isinstance(node.func, ast.Name):
                        self.assertIn(node.func.id, known, (path, node.lineno))

    def test_lambdas_are_keys(self):
        for path in sources():
            tree = ast.parse(path.read_text())
            keys = [word.value for node in ast.walk(tree) if isinstance(node, ast.Call) for word in node.keywords]
            for node in ast.walk(tree):
                if isinstance(node, ast.Lambda):
                    self.assertIn(node, keys, (path, node.lineno))

    def test_no_name_of_a_builtin_is_given_another_meaning(self):
        barred = set(dir(__builtins__)) if not isinstance(__builtins__, dict) else set(__builtins__)
        for path, node in self.nodes(ast.Name, ast.arg, ast.FunctionDef, ast.ClassDef):
            if isinstance(node, ast.Name) and isinstance(node.ctx, ast.Load):
                continue
            name = getattr(node, "id", None) or getattr(node, "arg", None) or getattr(node, "name", None)
            self.assertNotIn(name, barred, (path, node.lineno))

    def test_ranges_and_zips_are_iterated_where_they_stand(self):
        for path in sources():
            tree = ast.parse(path.read_text())
            told = [node.iter for node in ast.walk(tree) if isinstance(node, (ast.For, ast.comprehension))]
            for node in ast.walk(tree):
                if isinstance(node, ast.Call) and getattr(node.func, "id", "") in ("list", "tuple"):
                    told += node.args[:1]
            for node in ast.walk(tree):
                if isinstance(node, ast.Call) and getattr(node.func, "id", "") in ("range", "zip", "enumerate", "reversed"):
                    self.assertIn(node, told, (path, node.lineno))

    def test_views_are_iterated_where_they_stand(self):
        for path in sources():
            tree = ast.parse(path.read_text())
            told = [node.iter for node in ast.walk(tree) if isinstance(node, (ast.For, ast.comprehension))]
            for node in ast.walk(tree):
                if isinstance(node, ast.Call) and getattr(node.func, "id", "") in ("list", "tuple", "sorted", "dict"):
                    told += node.args[:1]
            for node in ast.walk(tree):
                if isinstance(node, ast.Call) and getattr(node.func, "attr", "") in VIEWS:
                    self.assertIn(node, told, (path, node.lineno))

    def test_sorting_is_by_sorted(self):
        for path, node in self.nodes(ast.Attribute):
            self.assertNotEqual(node.attr, "sort", (path, node.lineno))


class Names(unittest.TestCase):
    def test_no_local_name_is_that_of_a_class_or_an_import(self):
        for path in sources():
            tree = ast.parse(path.read_text())
            taken = {node.name for node in tree.body if isinstance(node, ast.ClassDef)}
            taken |= {alias.name for node in tree.body if isinstance(node, ast.ImportFrom) for alias in node.names}
            for function in functions(tree):
                for node in ast.walk(function):
                    if isinstance(node, ast.arg):
                        self.assertNotIn(node.arg, taken, (path, node.lineno))
                    if isinstance(node, ast.Name) and isinstance(node.ctx, ast.Store):
                        self.assertNotIn(node.id, taken, (path, node.lineno))

    def test_no_local_name_is_that_of_a_function_of_the_file(self):
        for path in sources():
            tree = ast.parse(path.read_text())
            taken = {node.name for node in tree.body if isinstance(node, ast.FunctionDef)}
            for node in ast.walk(tree):
                if isinstance(node, ast.Name) and isinstance(node.ctx, ast.Store):
                    self.assertNotIn(node.id, taken, (path, node.lineno))

    def test_methods_and_attributes(self):
        methods, attributes = set(), set()
        for path in sources():
            tree = ast.parse(path.read_text())
            for node in ast.walk(tree):
                if isinstance(node, ast.ClassDef):
                    methods |= {part.name for part in node.body if isinstance(part, ast.FunctionDef)}
                if isinstance(node, ast.Attribute) and isinstance(node.ctx, ast.Store):
                    attributes.add(node.attr)
        self.assertEqual(methods & attributes, set())
        told = {name for name in methods | attributes if not name.startswith("__")}
        self.assertEqual(told & BUILTIN_METHODS, set())

    def test_nothing_is_imported_round(self):
        told = {}
        for path in sources():
            tree = ast.parse(path.read_text())
            told[path.stem] = {node.module.split(".")[1] for node in imported(tree)}
        while told:
            last = [name for name in told if not told[name] & set(told)]
            self.assertNotEqual(last, [], told)
            for name in last:
                del told[name]

    def test_what_is_imported_is_used_and_defined_there(self):
        for path in sources():
            text = path.read_text()
            for node in imported(ast.parse(text)):
                for alias in node.names:
                    self.assertGreater(len(re.findall(rf"\b{alias.name}\b", text)), 1, (path, alias.name))
                    there = ast.parse((PACKAGE / f"{node.module.split('.')[1]}.py").read_text()).body
                    names = [part.name for part in there if isinstance(part, (ast.FunctionDef, ast.ClassDef))]
                    names += [part.targets[0].id for part in there if isinstance(part, ast.Assign)]
                    self.assertIn(alias.name, names, path)


if __name__ == "__main__":
    unittest.main()
