"""The package's own files: what stands where the interface lists it, and the rules of the language that a file shows."""

import ast
import builtins
import pathlib
import unittest

PACKAGE = pathlib.Path(__file__).resolve().parent.parent / "partways"
FILES = sorted(path for path in PACKAGE.iterdir() if path.name != "__pycache__")

INTERFACE = {
    "errors": {"PartsError": None, "BadSum": None, "BadNumber": None, "NotSuch": None, "TooMany": None},
    "sums": {"whole": ["parts"], "often": ["parts"], "turned": ["parts"], "is_own": ["parts"]},
    "leading": {"spread": ["parts", "by"], "gathered": ["parts", "by"]},
    "answers": {"Answer": None, "Partner": None, "Alone": None},
    "partners": {"partner": ["parts"]},
    "folding": {"folded": ["parts"], "hooks": ["parts"]},
}
METHODS_LISTED = {
    "answers": {"Partner": {"__init__": ["self", "parts"], "shows": ["self", "parts"]},
                "Alone": {"__init__": ["self", "many"], "shows": ["self", "parts"]}},
}

STATEMENTS = (ast.Expr, ast.Assign, ast.AugAssign, ast.If, ast.While, ast.For, ast.Return, ast.Break, ast.Continue,
              ast.Pass, ast.Raise, ast.Assert, ast.Delete, ast.Try, ast.Match, ast.FunctionDef, ast.ClassDef,
              ast.ImportFrom)
BUILTINS = set("""len range enumerate zip min max sum abs sorted reversed int str bool bytes list tuple dict set frozenset
    isinstance ord repr any all divmod ValueError Exception KeyError IndexError LookupError ZeroDivisionError""".split())
METHODS = set("""append clear copy count endswith extend find get index insert isalnum isalpha isdigit islower isspace
    isupper items join keys ljust lower lstrip partition pop remove replace reverse rfind rjust rpartition rsplit rstrip
    setdefault split splitlines startswith strip update upper values zfill bit_length""".split())
BARRED = set("""register mro elements open input law version_info with_traceback add_note eval exec globals locals vars
    help id dir compile""".split())


def trees():
    return [(path, ast.parse(path.read_text("ascii"))) for path in FILES]


def nodes():
    return [(path, node) for path, tree in trees() for node in ast.walk(tree)]


class InterfaceTest(unittest.TestCase):
    def test_names_and_arguments_stand_in_their_files(self):
        for name, listed in INTERFACE.items():
            tree = ast.parse((PACKAGE / (name + ".py")).read_text("ascii"))
            classes = {node.name for node in tree.body if isinstance(node, ast.ClassDef)}
            functions = {node.name: [arg.arg for arg in node.args.args] for node in tree.body
                         if isinstance(node, ast.FunctionDef)}
            for word, arguments in listed.items():
                if arguments is None:
                    self.assertIn(word, classes)
                else:
                    self.assertEqual(functions[word], arguments)

    def test_methods_stand_in_their_classes(self):
        for name, listed in METHODS_LISTED.items():
            tree = ast.parse((PACKAGE / (name + ".py")).read_text("ascii"))
            classes = {node.name: node for node in tree.body if isinstance(node, ast.ClassDef)}
            for word, methods in listed.items():
                found = {node.name: [arg.arg for arg in node.args.args] for node in classes[word].body
                         if isinstance(node, ast.FunctionDef)}
                self.assertEqual(found, methods)


class LanguageTest(unittest.TestCase):
    def test_the_folder_holds_plain_files_only(self):
        self.assertIn("__init__.py", [path.name for path in FILES])
        for path in FILES:
            self.assertRegex(path.name, r"^[a-z_][a-z0-9_]*\.py$")

    def test_characters_and_sizes(self):
        for path in FILES:
            text = path.read_text("ascii")
            self.assertRegex(text, r"^[ -~\n]*\Z")
            self.assertLessEqual(len(text.splitlines()), 399)
            self.assertLessEqual(max(len(line) for line in text.splitlines()), 120)
        for path, node in nodes():
            if isinstance(node, ast.FunctionDef):
                self.assertLessEqual(node.end_lineno - node.lineno + 1, 40, node.name)

    def test_imports_are_by_full_name_from_the_package(self):
        known = {"partways." + path.stem for path in FILES}
        for path, node in nodes():
            self.assertNotIsInstance(node, ast.Import)
            if isinstance(node, ast.ImportFrom):
                self.assertEqual(node.level, 0)
                self.assertIn(node.module, known)
                self.assertTrue(all(alias.asname is None and alias.name != "*" for alias in node.names))

    def test_statements_and_values(self):
        for path, node in nodes():
            if isinstance(node, ast.stmt):
                self.assertIsInstance(node, STATEMENTS, (path.name, node.lineno))
            self.assertNotIsInstance(node, (ast.Global, ast.Await, ast.Div, ast.Yield, ast.YieldFrom))
            if isinstance(node, ast.Constant):
                self.assertNotIsInstance(node.value, (float, complex))
            if isinstance(node, (ast.FunctionDef, ast.ClassDef)):
                self.assertEqual(node.decorator_list, [])

    def test_names(self):
        for path, tree in trees():
            own = {node.name for node in ast.walk(tree) if isinstance(node, (ast.FunctionDef, ast.ClassDef))}
            own |= {alias.name for node in ast.walk(tree) if isinstance(node, ast.ImportFrom) for alias in node.names}
            own |= {node.arg for node in ast.walk(tree) if isinstance(node, ast.arg)}
            own |= {node.id for node in ast.walk(tree) if isinstance(node, ast.Name) and isinstance(node.ctx, ast.Store)}
            self.assertEqual(own & (BUILTINS | BARRED | set(dir(builtins))), set(), path.name)
            for node in ast.walk(tree):
                if isinstance(node, ast.Name) and node.id not in own:
                    self.assertIn(node.id, BUILTINS, (path.name, node.lineno))
                if isinstance(node, ast.Call) and isinstance(node.func, ast.Attribute):
                    self.assertIn(node.func.attr, METHODS, (path.name, node.lineno))

    def test_modules_hold_definitions_only(self):
        for path, tree in trees():
            for node in tree.body:
                plain = isinstance(node, (ast.Expr, ast.Assign)) and isinstance(node.value, ast.Constant)
                self.assertTrue(plain or isinstance(node, (ast.ImportFrom, ast.FunctionDef, ast.ClassDef)),
                                (path.name, node.lineno))


if __name__ == "__main__":
    unittest.main()
