"""The package's files: what the language rules say of imports, names, calls, sizes and signs."""

import ast
import builtins
import functools
import pathlib
import unittest

FOLDER = pathlib.Path(__file__).resolve().parent.parent / "wordrooms"
BUILTINS = ("len range enumerate zip min max sum abs sorted reversed int str bool list tuple dict set isinstance ord repr "
            "any all Exception ValueError LookupError").split()
METHODS = ("append clear copy count endswith extend find get index insert isalnum isalpha isdigit islower isspace isupper "
           "items join keys ljust lower lstrip partition pop remove replace reverse rfind rjust rpartition rsplit rstrip "
           "setdefault split splitlines startswith strip update upper values zfill bit_length").split()
BARRED = ("register mro elements open input law version_info with_traceback add_note type typing enum dataclass overload "
          "contextmanager eval exec exit compile dir globals locals vars super sys os gc id help").split()
STATEMENTS = (ast.Assign, ast.AugAssign, ast.If, ast.While, ast.For, ast.Return, ast.Break, ast.Continue, ast.Pass, ast.Raise,
              ast.Delete, ast.Try, ast.Expr, ast.FunctionDef)


@functools.cache
def sources():
    """The name and the text of each file of the package."""
    return [(path.stem, path.read_text()) for path in sorted(FOLDER.glob("*.py"))]


@functools.cache
def trees():
    """The name and the tree of each file."""
    return [(name, ast.parse(source)) for name, source in sources()]


def nodes(kinds):
    """The file's name and the node, for each node of these kinds."""
    return [(name, node) for name, tree in trees() for node in ast.walk(tree) if isinstance(node, kinds)]


def nodes_of(tree, kinds):
    """The nodes of these kinds in a tree."""
    return [node for node in ast.walk(tree) if isinstance(node, kinds)]


def defined(tree):
    """The names that the file defines at its top."""
    names = [node.name for node in tree.body if isinstance(node, (ast.FunctionDef, ast.ClassDef))]
    return names + [target.id for node in tree.body if isinstance(node, ast.Assign) for target in node.targets]


def imported(tree):
    """The module and the name of each import of the file."""
    return [(node.module, word.name) for node in tree.body if isinstance(node, ast.ImportFrom) for word in node.names]


def bound(node):
    """The names that a function binds: parameters, variables, caught errors."""
    names = [child.arg for child in ast.walk(node) if isinstance(child, ast.arg)]
    names += [child.id for child in ast.walk(node) if isinstance(child, ast.Name) and isinstance(child.ctx, ast.Store)]
    return names + [child.name for child in ast.walk(node) if isinstance(child, ast.ExceptHandler) and child.name]


@functools.cache
def methods():
    """The names of all methods of the package."""
    return [node.name for _, owner in nodes(ast.ClassDef) for node in owner.body if isinstance(node, ast.FunctionDef)]


@functools.cache
def attributes():
    """The names of all attributes that are assigned in the package."""
    return [node.attr for _, node in nodes(ast.Attribute) if isinstance(node.ctx, ast.Store)]


class FilesTest(unittest.TestCase):
    def test_the_folder_holds_python_files_alone(self):
        found = [path.name for path in FOLDER.iterdir() if path.name != "__pycache__"]
        self.assertIn("__init__.py", found)
        self.assertEqual([name for name in found if not name.endswith(".py")], [])

    def test_sizes_and_signs(self):
        for name, source in sources():
            lines = source.splitlines()
            self.assertLessEqual(len(lines), 399, name)
            self.assertLessEqual(max([len(line) for line in lines]), 120, name)
            self.assertTrue(all([sign == "\n" or " " <= sign <= "~" for sign in source]), name)

    def test_functions_have_at_most_40_lines(self):
        for name, node in nodes(ast.FunctionDef):
            self.assertLessEqual(node.end_lineno - node.lineno + 1, 40, (name, node.name))

    def test_each_file_class_and_function_says_what_it_is(self):
        for name, tree in trees():
            self.assertTrue(ast.get_docstring(tree), name)
        for name, node in nodes((ast.FunctionDef, ast.ClassDef)):
            if not node.name.startswith("__"):
                self.assertTrue(ast.get_docstring(node), (name, node.name))


class ImportsTest(unittest.TestCase):
    def test_imports_name_the_file_that_defines(self):
        self.assertEqual(nodes(ast.Import), [])
        told = dict([("wordrooms." + name, defined(tree)) for name, tree in trees()])
        for name, tree in trees():
            for module, word in imported(tree):
                self.assertIn(word, told[module], (name, module))
            self.assertEqual(len(nodes_of(tree, ast.ImportFrom)), len([node for node in tree.body if isinstance(node, ast.ImportFrom)]))

    def test_each_import_is_used_and_bound_once(self):
        for name, tree in trees():
            words = [word for _, word in imported(tree)]
            used = [node.id for node in nodes_of(tree, ast.Name)]
            self.assertEqual([word for word in words if word not in used], [], name)
            both = words + defined(tree)
            self.assertEqual(len(both), len(set(both)), name)

    def test_no_two_files_import_from_each_other(self):
        below = dict([("wordrooms." + name, [module for module, _ in imported(tree)]) for name, tree in trees()])
        met = []
        while len(met) < len(below):
            free = [name for name in below if name not in met and all([other in met for other in below[name]])]
            self.assertNotEqual(free, [], sorted(set(below) - set(met)))
            met += free


class NamesTest(unittest.TestCase):
    def test_no_name_is_a_builtin_s_or_an_import_s(self):
        for name, tree in trees():
            taken = [word for _, word in imported(tree)] + [node.name for node in tree.body if isinstance(node, ast.ClassDef)]
            for node in nodes_of(tree, ast.FunctionDef):
                for word in bound(node):
                    self.assertNotIn(word, taken, (name, node.name))
                    self.assertFalse(hasattr(builtins, word), (name, node.name, word))
            for word in defined(tree):
                self.assertFalse(hasattr(builtins, word), (name, word))
            self.assertFalse(hasattr(builtins, name) and name != "__init__", name)

    def test_no_name_is_a_method_and_an_attribute(self):
        self.assertEqual(set(methods()) & set(attributes()), set())

    def test_own_methods_and_attributes_are_none_of_builtin_values(self):
        kinds = (str, int, list, dict, tuple, set, bytes)
        for word in methods() + attributes():
            if not word.startswith("__"):
                self.assertFalse(any([hasattr(kind, word) for kind in kinds]) and word != "count", word)

    def test_barred_names(self):
        for name, node in nodes((ast.Name, ast.Attribute, ast.arg, ast.FunctionDef, ast.ClassDef)):
            word = getattr(node, "id", None) or getattr(node, "attr", None) or getattr(node, "arg", None) or node.name
            self.assertNotIn(word, BARRED, name)
            self.assertFalse(word.startswith("__") and not word.endswith("__"), (name, word))

    def test_double_underscore_methods(self):
        allowed = ("__init__", "__eq__", "__len__", "__repr__")
        for name, node in nodes(ast.FunctionDef):
            self.assertTrue(not node.name.startswith("__") or node.name in allowed, (name, node.name))


class StatementsTest(unittest.TestCase):
    def test_module_level(self):
        for name, tree in trees():
            for node in tree.body:
                kinds = (ast.ImportFrom, ast.FunctionDef, ast.ClassDef, ast.Assign, ast.Expr)
                self.assertIsInstance(node, kinds, name)
                if isinstance(node, ast.Expr):
                    self.assertIsInstance(node.value, ast.Constant, name)
                if isinstance(node, ast.Assign):
                    self.assertEqual(nodes_of(node, (ast.Call, ast.ListComp, ast.BinOp)), [], name)
                    inner = nodes_of(node.value, (ast.List, ast.Dict))
                    self.assertLessEqual(len(inner), 1, name)

    def test_statements(self):
        for name, tree in trees():
            for node in nodes_of(tree, ast.FunctionDef):
                self.assertEqual(node.decorator_list, [], name)
                for child in nodes_of(node, ast.stmt):
                    self.assertIsInstance(child, STATEMENTS, name)

    def test_values(self):
        barred = (ast.Div, ast.Global, ast.Nonlocal, ast.Await, ast.Yield, ast.YieldFrom, ast.NamedExpr, ast.GeneratorExp, ast.SetComp)
        self.assertEqual(nodes(barred), [])
        for name, node in nodes(ast.Constant):
            self.assertNotIsInstance(node.value, float, name)
            if isinstance(node.value, str):
                self.assertNotIn(chr(37), node.value, name)

    def test_is_stands_beside_none_alone(self):
        for name, node in nodes(ast.Compare):
            if isinstance(node.ops[0], (ast.Is, ast.IsNot)):
                self.assertIsNone(node.comparators[0].value, name)

    def test_caught_errors_are_own_ones(self):
        own = [node.name for _, node in nodes(ast.ClassDef)]
        for name, node in nodes(ast.ExceptHandler):
            self.assertIn(node.type.id, own, name)


class CallsTest(unittest.TestCase):
    def test_builtins(self):
        for name, node in nodes(ast.Name):
            if hasattr(builtins, node.id):
                self.assertIn(node.id, BUILTINS, name)

    def test_methods(self):
        own = methods() + ["then"]
        for name, node in nodes(ast.Call):
            if isinstance(node.func, ast.Attribute):
                self.assertIn(node.func.attr, METHODS + own, name)
                if node.func.attr in METHODS:
                    self.assertEqual(node.keywords, [], (name, node.func.attr))

    def test_methods_are_not_passed_on(self):
        for name, tree in trees():
            called = [id(node.func) for node in nodes_of(tree, ast.Call)]
            for node in nodes_of(tree, ast.Attribute):
                if node.attr in methods() + METHODS and node.attr != "count":
                    self.assertIn(id(node), called, (name, node.attr))

    def test_sets_are_only_counted(self):
        for name, tree in trees():
            counted = [id(node.args[0]) for node in nodes_of(tree, ast.Call)
                       if isinstance(node.func, ast.Name) and node.func.id == "len"]
            for node in nodes_of(tree, (ast.Call, ast.Set)):
                if isinstance(node, ast.Set) or (isinstance(node.func, ast.Name) and node.func.id == "set"):
                    self.assertIn(id(node), counted, name)


if __name__ == "__main__":
    unittest.main()
