"""The package's files: what the language rules say of imports, sizes and signs."""

import ast
import pathlib
import unittest

FOLDER = pathlib.Path(__file__).resolve().parent.parent / "wordrooms"


def sources():
    """The name and the text of each file of the package."""
    return [(path.name, path.read_text()) for path in sorted(FOLDER.glob("*.py"))]


def nodes(kinds):
    """The file's name and the node, for each node of these kinds."""
    return [(name, node) for name, source in sources() for node in ast.walk(ast.parse(source))
            if isinstance(node, kinds)]


class LanguageTest(unittest.TestCase):
    def test_the_folder_holds_python_files_alone(self):
        found = [path.name for path in FOLDER.iterdir() if path.name != "__pycache__"]
        self.assertIn("__init__.py", found)
        self.assertEqual([name for name in found if not name.endswith(".py")], [])

    def test_sizes_and_signs(self):
        for name, source in sources():
            lines = source.splitlines()
            self.assertLessEqual(len(lines), 399, name)
            self.assertLessEqual(max([len(line) for line in lines]), 120, name)
            self.assertTrue(all([sign == "\n" or " " <= sign <= "~" for sign in source]), name)

    def test_functions_have_at_most_40_lines(self):
        for name, node in nodes(ast.FunctionDef):
            self.assertLessEqual(node.end_lineno - node.lineno + 1, 40, (name, node.name))

    def test_imports_are_of_the_package_alone(self):
        self.assertEqual(nodes(ast.Import), [])
        for name, node in nodes(ast.ImportFrom):
            self.assertTrue(node.module.startswith("wordrooms."), (name, node.module))

    def test_no_floats_and_no_globals(self):
        self.assertEqual(nodes((ast.Div, ast.Global, ast.AsyncFunctionDef)), [])
        for name, node in nodes(ast.Constant):
            self.assertNotIsInstance(node.value, float, name)


if __name__ == "__main__":
    unittest.main()
