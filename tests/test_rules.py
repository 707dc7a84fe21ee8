"""The interface's names, and what of ../shared/LANGUAGE.md can be seen from a file's text."""

import ast
import inspect
import pathlib
import unittest

import blockpages.answers
import blockpages.comparing
import blockpages.errors
import blockpages.making
import blockpages.pages

FOLDER = pathlib.Path(__file__).resolve().parent.parent / "blockpages"
OUTSIDE = {"itertools": {"combinations"}}


def files():
    return sorted(FOLDER.glob("*.py"))


def parameters(call):
    return str(inspect.signature(call))


class Interface(unittest.TestCase):
    def test_functions(self):
        told = {blockpages.making: {"made": "(book, name, handed)", "flat": "(book, name)", "asked": "(book, name)",
                                    "idle": "(book, name)"},
                blockpages.comparing: {"compared": "(book, name, other, there)", "changed": "(book, other)"}}
        for module, calls in told.items():
            for name, given in calls.items():
                call = getattr(module, name)
                self.assertEqual((parameters(call), call.__module__), (given, module.__name__))

    def test_classes(self):
        told = {blockpages.pages: {"Page": ("(name, items, elder=None)", {"told": "(self)"}),
                                   "Book": ("(pages)", {"names": "(self)", "page": "(self, name)",
                                                        "line": "(self, name)"})},
                blockpages.answers: {"Made": ("(text, pieces)", {"shows": "(self, book, name, handed)"}),
                                     "Alike": ("()", {"shows": "(self, book, name, other, there)"}),
                                     "Parted": ("(handed)", {"shows": "(self, book, name, other, there)"})}}
        for module, classes in told.items():
            for name, (given, methods) in classes.items():
                kind = getattr(module, name)
                self.assertEqual((parameters(kind), kind.__module__), (given, module.__name__))
                for method, taken in methods.items():
                    self.assertEqual(parameters(vars(kind)[method]), taken)

    def test_errors(self):
        for name in ("PageError", "BadPage", "BadBook", "BadName", "BadHanded", "Lacks", "Endless", "TooMany",
                     "Unlike"):
            self.assertEqual(getattr(blockpages.errors, name).__module__, "blockpages.errors")


class Rules(unittest.TestCase):
    def test_nothing_but_files_of_plain_names(self):
        for path in FOLDER.iterdir():
            if path.name != "__pycache__":
                self.assertRegex(path.name, r"^(__init__|[a-z_]+)\.py$")

    def test_size_and_characters(self):
        for path in files():
            text = path.read_text(encoding="utf-8")
            self.assertTrue(all(" " <= sign <= "~" or sign == "\n" for sign in text), path)
            lines = text.splitlines()
            self.assertLessEqual(len(lines), 399, path)
            self.assertLessEqual(max([len(line) for line in lines]), 120, path)
            for node in ast.walk(ast.parse(text)):
                if isinstance(node, ast.FunctionDef):
                    self.assertLessEqual(node.end_lineno - node.lineno + 1, 40, f"{path} {node.name}")
                    self.assertEqual(node.decorator_list, [])

    def test_imports(self):
        for path in files():
            for node in ast.walk(ast.parse(path.read_text(encoding="utf-8"))):
                self.assertNotIsInstance(node, (ast.Import, ast.Global, ast.AsyncFunctionDef, ast.Div), path)
                if isinstance(node, ast.ImportFrom):
                    self.imported(path, node)

    def imported(self, path, node):
        names = {alias.name for alias in node.names}
        self.assertEqual(node.level, 0, path)
        self.assertEqual([alias.asname for alias in node.names], [None] * len(node.names), path)
        if node.module in OUTSIDE:
            self.assertLessEqual(names, OUTSIDE[node.module], path)
            return
        package, _, module = node.module.partition(".")
        self.assertEqual(package, "blockpages", path)
        tree = ast.parse((FOLDER / f"{module}.py").read_text(encoding="utf-8"))
        self.assertLessEqual(names, {name for each in tree.body for name in bound_by(each)}, path)


def bound_by(node):
    """The names that a statement at module level defines; an import defines none."""
    if isinstance(node, (ast.FunctionDef, ast.ClassDef)):
        return [node.name]
    if isinstance(node, ast.Assign):
        return [target.id for target in node.targets]
    return []


if __name__ == "__main__":
    unittest.main()
