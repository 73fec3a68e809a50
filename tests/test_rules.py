"""Some of the rules of the language of the package, those that a short look at each file can see."""

import ast
import builtins
import os
import unittest

PACKAGE = os.path.join(os.path.dirname(os.path.dirname(os.path.abspath(__file__))), "forkhaul")
BUILTINS = set("""len range enumerate zip min max sum abs sorted reversed int str bool list tuple dict set isinstance
    ord repr any all divmod iter next map super ValueError TypeError KeyError IndexError LookupError""".split())
DECORATORS = ("property", "staticmethod", "classmethod")
BARRED = (ast.Global, ast.Lambda, ast.AsyncFunctionDef, ast.Await, ast.TryStar)


class Rules(unittest.TestCase):
    def files(self):
        for name in sorted(os.listdir(PACKAGE)):
            if name != "__pycache__":
                self.assertRegex(name, "^[a-z0-9_]+[.]py$")
                with open(os.path.join(PACKAGE, name), encoding="ascii") as file:
                    yield name, file.read()

    def test_sizes_and_characters(self):
        for name, text in self.files():
            lines = text.split("\n")
            self.assertTrue(len(lines) <= 400, name)
            for number, line in enumerate(lines, start=1):
                self.assertTrue(len(line) <= 120 and line == line.rstrip(), (name, number))
                self.assertTrue(all([" " <= sign <= "~" for sign in line]), (name, number))

    def test_statements(self):
        for name, text in self.files():
            for node in ast.walk(ast.parse(text)):
                place = (name, getattr(node, "lineno", 0))
                self.assertNotIsInstance(node, BARRED, place)
                if isinstance(node, ast.Import):
                    self.fail(place)
                if isinstance(node, ast.ImportFrom):
                    self.assertRegex(node.module, "^forkhaul[.][a-z0-9_]+$", place)
                if isinstance(node, ast.FunctionDef):
                    self.assertTrue(node.end_lineno - node.lineno < 40, place)
                    for decorator in node.decorator_list:
                        self.assertIn(ast.unparse(decorator), DECORATORS, place)
                if isinstance(node, ast.Constant):
                    self.assertNotIsInstance(node.value, (float, complex), place)
                    if isinstance(node.value, str):
                        self.assertNotIn(chr(37), node.value, place)
                if isinstance(node, ast.JoinedStr):
                    self.assertNotIn(chr(37), ast.get_source_segment(text, node), place)
                if isinstance(node, ast.BinOp):
                    self.assertNotIsInstance(node.op, ast.Div, place)

    def test_builtins(self):
        known = set(dir(builtins))
        for name, text in self.files():
            for node in ast.walk(ast.parse(text)):
                if isinstance(node, ast.Call) and isinstance(node.func, ast.Name) and node.func.id in known:
                    self.assertIn(node.func.id, BUILTINS, (name, node.lineno))

    def test_no_builtin_gets_another_meaning(self):
        known = set(dir(builtins))
        for name, text in self.files():
            for node in ast.walk(ast.parse(text)):
                if isinstance(node, ast.Name) and isinstance(node.ctx, ast.Store):
                    self.assertNotIn(node.id, known, (name, node.lineno))
                if isinstance(node, ast.arg):
                    self.assertNotIn(node.arg, known, (name, node.lineno))

    def test_no_name_of_an_import_or_a_class_gets_another_meaning(self):
        for name, text in self.files():
            tree = ast.parse(text)
            taken = {alias.name for node in tree.body if isinstance(node, ast.ImportFrom) for alias in node.names}
            taken |= {node.name for node in tree.body if isinstance(node, ast.ClassDef)}
            for node in ast.walk(tree):
                if isinstance(node, ast.Name) and isinstance(node.ctx, ast.Store):
                    self.assertNotIn(node.id, taken, (name, node.lineno))
                if isinstance(node, ast.arg):
                    self.assertNotIn(node.arg, taken, (name, node.lineno))

    def test_each_import_is_used(self):
        for name, text in self.files():
            tree = ast.parse(text)
            used = {node.id for node in ast.walk(tree) if isinstance(node, ast.Name)}
            for node in tree.body:
                if isinstance(node, ast.ImportFrom):
                    for alias in node.names:
                        self.assertIn(alias.name, used, name)

    def test_no_name_is_a_method_and_an_attribute(self):
        methods, attributes = set(), set()
        for _, text in self.files():
            for node in ast.walk(ast.parse(text)):
                if isinstance(node, ast.ClassDef):
                    methods |= {row.name for row in node.body if isinstance(row, ast.FunctionDef)}
                if isinstance(node, ast.Attribute) and isinstance(node.ctx, ast.Store):
                    attributes.add(node.attr)
        self.assertEqual(methods & attributes, set())

    def test_what_is_sorted_and_compared(self):
        """With classes that compare, `sorted`, `min` and `max` take what is plainly numbers or texts, in a list."""
        for name, text in self.files():
            for node in ast.walk(ast.parse(text)):
                if not isinstance(node, ast.Call):
                    continue
                self.assertNotEqual(getattr(node.func, "attr", ""), "sort", (name, node.lineno))
                if getattr(node.func, "id", "") in ("sorted", "min", "max"):
                    source = ast.unparse(node)
                    self.assertRegex(source, "[(]\\[?(f['\"]|str[(]|int[(])", (name, node.lineno))
                if getattr(node.func, "id", "") in ("any", "all", "sum", "sorted"):
                    self.assertNotIsInstance(node.args[0], ast.GeneratorExp, (name, node.lineno))

    def test_texts_in_f_strings(self):
        """A text inside the braces stands in an f-string without a backslash only."""
        for name, text in self.files():
            for node in ast.walk(ast.parse(text)):
                if isinstance(node, ast.JoinedStr):
                    inner = [row for part in node.values if isinstance(part, ast.FormattedValue)
                             for row in ast.walk(part.value) if isinstance(row, ast.Constant) and isinstance(row.value, str)]
                    source = ast.get_source_segment(text, node)
                    self.assertFalse(inner and ("\\" in source or "#" in source), (name, node.lineno))


if __name__ == "__main__":
    unittest.main()
