"""Those rules of the language that can be read off the files of the package one by one."""

import ast
import pathlib
import unittest

PACKAGE = pathlib.Path(__file__).resolve().parent.parent / "spoiltline"
BUILTINS = {"len", "range", "enumerate", "zip", "min", "max", "sum", "abs", "sorted", "reversed", "int", "str", "bool",
            "list", "tuple", "dict", "isinstance", "ord", "any", "all", "divmod", "Exception"}
BARRED = (ast.Set, ast.SetComp, ast.GeneratorExp, ast.AsyncFunctionDef, ast.Await, ast.Global, ast.Div, ast.Lambda,
          ast.Yield, ast.YieldFrom)


def sources():
    return sorted(path for path in PACKAGE.rglob("*") if "__pycache__" not in path.parts)


def functions(tree):
    return [node for node in ast.walk(tree) if isinstance(node, ast.FunctionDef)]


class Files(unittest.TestCase):
    def test_only_plain_python_files(self):
        self.assertTrue(len(sources()) > 1)
        for path in sources():
            self.assertRegex(path.name, "^[a-z_][a-z0-9_]*[.]py$")

    def test_characters_and_sizes(self):
        for path in sources():
            data = path.read_bytes()
            self.assertTrue(all(code == 10 or 32 <= code <= 126 for code in data), path)
            lines = data.decode("ascii").split("\n")
            self.assertTrue(len(lines) <= 400 and max(len(line) for line in lines) <= 120, path)
            self.assertNotIn("%", data.decode("ascii"))

    def test_functions_are_small(self):
        for path in sources():
            for node in functions(ast.parse(path.read_text())):
                self.assertTrue(node.end_lineno - node.lineno < 40, (path, node.name))


class Statements(unittest.TestCase):
    def nodes(self, *kinds):
        for path in sources():
            for node in ast.walk(ast.parse(path.read_text())):
                if isinstance(node, kinds):
                    yield path, node

    def test_module_level(self):
        allowed = (ast.ImportFrom, ast.FunctionDef, ast.ClassDef, ast.Assign, ast.Expr)
        for path, tree in self.nodes(ast.Module):
            for node in tree.body:
                self.assertIsInstance(node, allowed, path)
            names = [node.name for node in tree.body if isinstance(node, (ast.FunctionDef, ast.ClassDef))]
            names += [alias.name for node in tree.body if isinstance(node, ast.ImportFrom) for alias in node.names]
            self.assertEqual(len(names), len(set(names)), path)

    def test_imports(self):
        for path, node in self.nodes(ast.Import, ast.ImportFrom):
            self.assertIsInstance(node, ast.ImportFrom, path)
            self.assertTrue(node.level == 0 and node.module.startswith("spoiltline."), path)
            self.assertTrue(all(alias.asname is None and alias.name != "*" for alias in node.names), path)

    def test_nothing_barred(self):
        self.assertEqual([(path.name, node.lineno) for path, node in self.nodes(*BARRED)], [])

    def test_is_stands_beside_none_true_and_false(self):
        for path, node in self.nodes(ast.Compare):
            for sign, side in zip(node.ops, node.comparators):
                if isinstance(sign, (ast.Is, ast.IsNot)):
                    self.assertIsInstance(side, ast.Constant, (path, node.lineno))

    def test_what_is_called_by_its_name_is_known(self):
        for path in sources():
            tree = ast.parse(path.read_text())
            own = {node.name for node in ast.walk(tree) if isinstance(node, (ast.FunctionDef, ast.ClassDef))}
            own |= {alias.name for node in tree.body if isinstance(node, ast.ImportFrom) for alias in node.names}
            for node in ast.walk(tree):
                if isinstance(node, ast.Call) and isinstance(node.func, ast.Name):
                    self.assertIn(node.func.id, own | BUILTINS, (path, node.lineno))

    def test_no_name_of_a_builtin_is_given_another_meaning(self):
        barred = set(dir(__builtins__)) if not isinstance(__builtins__, dict) else set(__builtins__)
        for path, node in self.nodes(ast.Name, ast.arg, ast.FunctionDef, ast.ClassDef):
            if isinstance(node, ast.Name) and isinstance(node.ctx, ast.Load):
                continue
            name = getattr(node, "id", None) or getattr(node, "arg", None) or getattr(node, "name", None)
            self.assertNotIn(name, barred, (path, node.lineno))

    def test_ranges_and_zips_are_iterated_where_they_stand(self):
        for path in sources():
            tree = ast.parse(path.read_text())
            told = [node.iter for node in ast.walk(tree) if isinstance(node, (ast.For, ast.comprehension))]
            for node in ast.walk(tree):
                if isinstance(node, ast.Call) and getattr(node.func, "id", "") in ("range", "zip", "enumerate", "reversed"):
                    self.assertIn(node, told, (path, node.lineno))


if __name__ == "__main__":
    unittest.main()
