"""The package's files keep to the sizes, signs and names that the rules for its code set."""

import ast
import builtins
import pathlib
import unittest

PACKAGE = pathlib.Path(__file__).resolve().parent.parent / "askladder"
FILES = sorted(PACKAGE.rglob("*.py"))
INTERFACE = {
    "errors": ("AskError", "NoText", "NoProgram", "NoBook", "NoTurn", "NoRow"),
    "words": ("is_name", "is_figures"),
    "reader": ("read",),
    "writer": ("shown",),
    "parts": ("all_parts", "body_of", "begun_with", "pieces"),
    "sound": ("look",),
    "asking": ("asks_of", "way_of"),
    "walk": ("Walk",),
    "runs": ("ran",),
    "codes": ("part_code", "code_of"),
    "often": ("param_words", "hold_words"),
    "machine": ("by_rows",),
    "stairs": ("Stairs", "by_stairs"),
    "books": ("check_book", "summed"),
    "turned": ("laid_in", "let_go", "passed_on", "exchanged"),
    "desk": ("answer",),
}
METHODS = {
    ("walk", "Walk"): ("turn", "ladder", "steps", "end", "book"),
    ("stairs", "Stairs"): ("turn", "steps", "end", "book", "flights", "hearers"),
}


def bound_names(tree):
    for node in ast.walk(tree):
        if isinstance(node, (ast.FunctionDef, ast.ClassDef)):
            yield node.name
        elif isinstance(node, ast.arg):
            yield node.arg
        elif isinstance(node, ast.Name) and not isinstance(node.ctx, ast.Load):
            yield node.id


class Package(unittest.TestCase):
    def test_files(self):
        self.assertIn(PACKAGE / "__init__.py", FILES)
        for file in PACKAGE.rglob("*"):
            self.assertTrue(file in FILES or file.name == "__pycache__" or file.suffix == ".pyc", file)

    def test_sizes_and_signs(self):
        for file in FILES:
            text = file.read_text(encoding="utf-8")
            self.assertTrue(all(sign == "\n" or " " <= sign <= "~" for sign in text), file)
            lines = text.splitlines() or [""]
            self.assertLessEqual(len(lines), 399, file)
            self.assertLessEqual(max(map(len, lines)), 120, file)
            for node in ast.walk(ast.parse(text)):
                if isinstance(node, ast.FunctionDef):
                    self.assertLessEqual(node.end_lineno - node.lineno + 1, 40, (file, node.name))

    def test_imports_are_of_the_package(self):
        for file in FILES:
            for node in ast.walk(ast.parse(file.read_text(encoding="utf-8"))):
                self.assertNotIsInstance(node, ast.Import)
                if isinstance(node, ast.ImportFrom):
                    self.assertTrue(node.module.startswith("askladder."), (file, node.module))

    def test_no_name_is_that_of_a_builtin(self):
        for file in FILES:
            for name in bound_names(ast.parse(file.read_text(encoding="utf-8"))):
                self.assertTrue(name.startswith("__") or not hasattr(builtins, name), (file, name))

    def test_interface_is_defined_in_its_files(self):
        for module, names in INTERFACE.items():
            body = ast.parse((PACKAGE / (module + ".py")).read_text(encoding="utf-8")).body
            defined = [node.name for node in body if isinstance(node, (ast.FunctionDef, ast.ClassDef))]
            for name in names:
                self.assertEqual(defined.count(name), 1, (module, name))

    def test_methods_are_defined_in_their_classes(self):
        for (module, name), methods in METHODS.items():
            tree = ast.parse((PACKAGE / (module + ".py")).read_text(encoding="utf-8"))
            found = next(node for node in tree.body if isinstance(node, ast.ClassDef) and node.name == name)
            defined = [node.name for node in found.body if isinstance(node, ast.FunctionDef)]
            for method in methods:
                self.assertEqual(defined.count(method), 1, (name, method))

    def test_no_two_files_import_from_each_other(self):
        above = {}
        for file in FILES:
            nodes = ast.walk(ast.parse(file.read_text(encoding="utf-8")))
            above[file.stem] = {node.module.split(".")[1] for node in nodes if isinstance(node, ast.ImportFrom)}
        while above:
            free = [name for name, names in above.items() if not names & set(above)]
            self.assertTrue(free, sorted(above))
            for name in free:
                del above[name]


if __name__ == "__main__":
    unittest.main()
