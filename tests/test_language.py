"""What can be seen from outside of how the files of the package are to be written."""

import ast
import os
import unittest

import handlerims

FOLDER = os.path.dirname(handlerims.__file__)
LIBRARY = {"heapq", "math", "itertools", "collections"}
BUILTINS = set("""len range enumerate zip min max sum abs sorted reversed int str bool list tuple dict set isinstance
ord repr any all divmod map ValueError""".split())
BARRED = set("""register mro elements open input law getattr setattr hasattr delattr vars eval exec globals locals
print compile type float chr id hash super frozenset iter next object bytes pow global""".split())


def files():
    names = sorted(name for name in os.listdir(FOLDER) if name != "__pycache__")
    for name in names:
        with open(os.path.join(FOLDER, name), encoding="ascii", newline="") as text:
            yield name, text.read()


class Language(unittest.TestCase):
    def test_plain_files_of_plain_lines(self):
        for name, text in files():
            self.assertRegex(name, r"^(__init__|[a-z_]+)\.py$")
            self.assertTrue(all(sign == "\n" or " " <= sign <= "~" for sign in text), name)
            lines = text.split("\n")
            self.assertLessEqual(len(lines), 400, name)
            self.assertLessEqual(max(len(line) for line in lines), 120, name)
            self.assertEqual([line for line in lines if line.endswith(" ")], [], name)

    def test_short_functions(self):
        for name, text in files():
            for node in ast.walk(ast.parse(text)):
                if isinstance(node, ast.FunctionDef):
                    self.assertLessEqual(node.end_lineno - node.lineno + 1, 40, (name, node.name))

    def test_imports_of_the_package_and_a_few_of_the_library(self):
        for name, text in files():
            for node in ast.walk(ast.parse(text)):
                self.assertNotIsInstance(node, ast.Import, name)
                if isinstance(node, ast.ImportFrom):
                    self.assertEqual(node.level, 0, name)
                    self.assertIn(node.module.split(".")[0], LIBRARY | {"handlerims"}, name)
                    self.assertNotIn("*", [one.name for one in node.names], name)

    def test_no_ring_of_imports(self):
        above = {}
        for name, text in files():
            body = ast.parse(text).body
            above["handlerims." + name[:-3]] = [one.module for one in body if isinstance(one, ast.ImportFrom)]
        done = set(LIBRARY)
        while set(above) - done:
            ready = [name for name in sorted(set(above) - done) if set(above[name]) <= done]
            self.assertTrue(ready, "these import from each other: " + " ".join(sorted(set(above) - done)))
            done.update(ready)

    def test_only_what_is_allowed(self):
        for name, text in files():
            for node in ast.walk(ast.parse(text)):
                self.assertNotIsInstance(node, (ast.Global, ast.AsyncFunctionDef, ast.Div, ast.Set, ast.Yield), name)
                if isinstance(node, ast.Constant):
                    self.assertNotIsInstance(node.value, (float, complex, bytes), name)
                    self.assertFalse(isinstance(node.value, str) and "%" in node.value, name)
                if isinstance(node, ast.Name):
                    self.assertNotIn(node.id, BARRED, name)
                    self.assertFalse(isinstance(node.ctx, ast.Store) and node.id in BUILTINS, (name, node.id))
                if isinstance(node, ast.arg):
                    self.assertNotIn(node.arg, BUILTINS | BARRED, name)
                if isinstance(node, (ast.FunctionDef, ast.ClassDef)):
                    told = [one.id for one in node.decorator_list]
                    self.assertTrue(told in ([], ["staticmethod"]), name)

    def test_each_name_is_bound_once_in_a_file(self):
        for name, text in files():
            names = []
            for node in ast.parse(text).body:
                if isinstance(node, ast.ImportFrom):
                    names += [one.name for one in node.names]
                elif isinstance(node, (ast.FunctionDef, ast.ClassDef)):
                    names.append(node.name)
                elif isinstance(node, ast.Assign):
                    names += [one.id for one in node.targets]
            self.assertEqual(len(names), len(set(names)), name)
            for node in ast.walk(ast.parse(text)):
                if isinstance(node, ast.Name) and isinstance(node.ctx, ast.Store) and node.id.lower() == node.id:
                    self.assertNotIn(node.id, names, name)
                if isinstance(node, ast.arg):
                    self.assertNotIn(node.arg, names, name)

    def test_docstrings(self):
        for name, text in files():
            tree = ast.parse(text)
            self.assertIsNotNone(ast.get_docstring(tree), name)
            for node in ast.walk(tree):
                if isinstance(node, (ast.FunctionDef, ast.ClassDef)) and not node.name.startswith("__"):
                    self.assertIsNotNone(ast.get_docstring(node), (name, node.name))
