"""The plainest rules of LANGUAGE.md, looked at in the files of the package."""
import ast
import builtins
import pathlib
import re
import unittest

PACKAGE = pathlib.Path(__file__).resolve().parent.parent / "freshparts"
BUILTINS = set("""len range enumerate zip min max sum abs sorted reversed int str bool bytes list tuple dict set
    frozenset isinstance ord repr any all divmod iter next Exception ValueError TypeError KeyError IndexError
    LookupError ZeroDivisionError ArithmeticError OverflowError RuntimeError NotImplementedError super property
    staticmethod classmethod NotImplemented""".split())
BARRED = re.compile(r"\b(type|typing|enum|Enum|Flag|Generic|Protocol|ABC|namedtuple|NamedTuple)\b|dataclass|overload")
NODES_BARRED = (ast.Global, ast.AsyncFunctionDef, ast.Import, ast.Div)


def files():
    return sorted(PACKAGE.glob("*.py"))


def bound_names(function):
    arguments = function.args
    for argument in [*arguments.posonlyargs, *arguments.args, *arguments.kwonlyargs]:
        yield argument.arg
    for node in ast.walk(function):
        if isinstance(node, ast.Name) and isinstance(node.ctx, ast.Store):
            yield node.id


class Language(unittest.TestCase):
    def test_the_folder_holds_only_plain_files(self):
        others = [path.name for path in PACKAGE.iterdir()
                  if path.name != "__pycache__" and not re.fullmatch(r"[a-z0-9_]+\.py", path.name)]
        self.assertEqual(others, [])
        self.assertTrue((PACKAGE / "__init__.py").exists())

    def test_lines_and_signs(self):
        for path in files():
            text = path.read_text(encoding="utf-8")
            self.assertIsNone(re.search(r"[^ -~\n]", text), path)
            self.assertIsNone(BARRED.search(text), path)
            lines = text.split("\n")
            self.assertLessEqual(len(lines), 400, path)
            self.assertLessEqual(max(len(line) for line in lines), 120, path)

    def test_functions_are_small_and_names_plain(self):
        for path in files():
            tree = ast.parse(path.read_text(encoding="utf-8"))
            imported = [alias.name for node in tree.body if isinstance(node, ast.ImportFrom) for alias in node.names]
            for node in ast.walk(tree):
                if isinstance(node, ast.FunctionDef):
                    self.assertLessEqual(node.end_lineno - node.lineno + 1, 40, (path, node.name))
                    for name in bound_names(node):
                        self.assertFalse(name.startswith("_"), (path, name))
                        self.assertFalse(hasattr(builtins, name), (path, name))
                        self.assertNotIn(name, imported, path)

    def test_imports_name_the_file_that_defines(self):
        for path in files():
            tree = ast.parse(path.read_text(encoding="utf-8"))
            for node in ast.walk(tree):
                if isinstance(node, ast.ImportFrom):
                    self.assertIn(node, tree.body, path)
                    self.assertRegex(node.module, r"^freshparts\.[a-z0-9_]+$")
                    source = (PACKAGE / f"{node.module.split('.')[1]}.py").read_text(encoding="utf-8")
                    for alias in node.names:
                        self.assertRegex(source, rf"(?m)^(def |class |){alias.name}\b", (path, alias.name))

    def test_only_told_builtins_and_signs(self):
        for path in files():
            tree = ast.parse(path.read_text(encoding="utf-8"))
            for node in ast.walk(tree):
                self.assertNotIsInstance(node, NODES_BARRED, path)
                if isinstance(node, ast.Name) and hasattr(builtins, node.id):
                    self.assertIn(node.id, BUILTINS, path)
                if isinstance(node, ast.Constant):
                    self.assertNotIsInstance(node.value, (float, complex), path)
                    if isinstance(node.value, str):
                        self.assertNotIn("%", node.value, path)
                if isinstance(node, ast.BinOp) and isinstance(node.op, ast.Pow):
                    self.assertIsInstance(node.right, ast.Constant, path)
                if isinstance(node, ast.Compare) and any(isinstance(sign, (ast.Is, ast.IsNot)) for sign in node.ops):
                    self.assertIsInstance(node.comparators[0], ast.Constant, path)


if __name__ == "__main__":
    unittest.main()
