"""Tests of the form of the package: sizes, characters, imports, and words of Python that it does without."""

import ast
import builtins
import unittest
from pathlib import Path

PACKAGE = Path(__file__).resolve().parent.parent / "headskip"
FILES = sorted(PACKAGE.glob("*.py"))
BUILTINS = set(
    "len range enumerate zip min max sum abs sorted reversed int str bool list tuple dict set isinstance ord repr any "
    "all divmod iter next ValueError staticmethod classmethod property".split()
)
METHODS = set(
    "append clear copy count endswith extend find get index insert isalnum isalpha isdigit islower isspace isupper items "
    "join keys ljust lower lstrip partition pop remove replace reverse rfind rjust rpartition rsplit rstrip setdefault "
    "split splitlines startswith strip update upper values zfill bit_length removeprefix removesuffix isascii add".split()
)
BARRED = set(
    "register mro elements open input law version_info with_traceback add_note type eval exec compile globals locals "
    "vars dir help exit quit os sys gc typing enum Enum".split()
)
NOT_ALLOWED = (ast.GeneratorExp, ast.AsyncFunctionDef, ast.Await, ast.Global, ast.Div)


def trees():
    return {path.stem: ast.parse(path.read_text(encoding="ascii")) for path in FILES}


def nodes(tree, *kinds):
    return [node for node in ast.walk(tree) if isinstance(node, kinds)]


def is_plain(node):
    """Whether an argument of sorted, min or max is plainly numbers or strings, as an order of Heads requires."""
    if isinstance(node, ast.ListComp):
        return is_plain(node.elt)
    if isinstance(node, ast.Call) and isinstance(node.func, ast.Name):
        return node.func.id in ("len", "int", "str", "range", "set")
    return isinstance(node, ast.Constant)


class Form(unittest.TestCase):
    def test_the_folder_holds_nothing_else(self):
        found = [path.name for path in PACKAGE.iterdir() if path.name != "__pycache__"]
        self.assertEqual(sorted(found), [path.name for path in FILES])
        self.assertIn("__init__.py", found)

    def test_sizes_and_characters(self):
        for path in FILES:
            lines = path.read_text(encoding="ascii").split("\n")
            self.assertLessEqual(len(lines), 400, path)
            for line in lines:
                self.assertLessEqual(len(line), 120, (path, line))
                self.assertTrue(all(" " <= letter <= "~" for letter in line), (path, line))
        for name, tree in trees().items():
            for node in nodes(tree, ast.FunctionDef):
                self.assertLessEqual(node.end_lineno - node.lineno + 1, 40, (name, node.name))

    def test_imports_are_full_names_without_circles(self):
        wanted, home = {}, {}
        for name, tree in trees().items():
            self.assertFalse(nodes(tree, ast.Import), name)
            imports = nodes(tree, ast.ImportFrom)
            wanted[name] = {node.module.removeprefix("headskip.") for node in imports}
            home[name] = {node.name for node in tree.body if isinstance(node, (ast.FunctionDef, ast.ClassDef))}
            home[name] |= {target.id for node in tree.body if isinstance(node, ast.Assign) for target in node.targets}
        for name, tree in trees().items():
            for node in nodes(tree, ast.ImportFrom):
                for part in node.names:
                    self.assertIn(part.name, home[node.module.removeprefix("headskip.")])
        while wanted:
            free = [name for name in wanted if not wanted[name] & set(wanted)]
            self.assertTrue(free, wanted)
            wanted = {name: wanted[name] for name in wanted if name not in free}

    def test_statements_and_expressions(self):
        for name, tree in trees().items():
            self.assertFalse(nodes(tree, *NOT_ALLOWED), name)
            for node in nodes(tree, ast.Constant):
                self.assertNotIsInstance(node.value, float, (name, node.lineno))
                if isinstance(node.value, str):
                    self.assertNotIn("%", node.value)

    def test_builtins_and_methods(self):
        own = {node.name for tree in trees().values() for node in nodes(tree, ast.FunctionDef)}
        for name, tree in trees().items():
            for node in nodes(tree, ast.Name):
                if hasattr(builtins, node.id):
                    self.assertIn(node.id, BUILTINS, (name, node.lineno))
                    self.assertIsInstance(node.ctx, ast.Load, (name, node.lineno))
            for node in nodes(tree, ast.Call):
                if isinstance(node.func, ast.Attribute):
                    self.assertIn(node.func.attr, METHODS | own, (name, node.lineno))

    def test_names(self):
        for name, tree in trees().items():
            bound = [node.id for node in nodes(tree, ast.Name) if isinstance(node.ctx, ast.Store)]
            bound += [node.arg for node in nodes(tree, ast.arg)]
            bound += [node.name for node in nodes(tree, ast.FunctionDef, ast.ClassDef)]
            imported = {part.name for node in nodes(tree, ast.ImportFrom) for part in node.names}
            self.assertFalse(set(bound) & (BARRED | imported), name)
            self.assertFalse([word for word in bound if hasattr(builtins, word) and not word.startswith("__")], name)

    def test_what_is_ordered_is_plain(self):
        for name, tree in trees().items():
            for node in nodes(tree, ast.Call):
                if isinstance(node.func, ast.Name) and node.func.id in ("sorted", "min", "max"):
                    self.assertTrue(any(is_plain(part) for part in node.args), (name, node.lineno))

    def test_sets_stand_in_sorted_and_len_and_beside_comparisons_alone(self):
        for name, tree in trees().items():
            parents = {child: node for node in ast.walk(tree) for child in ast.iter_child_nodes(node)}
            for node in nodes(tree, ast.Call, ast.SetComp, ast.Set):
                if isinstance(node, ast.Call) and not (isinstance(node.func, ast.Name) and node.func.id == "set"):
                    continue
                above = parents[node]
                if not isinstance(above, ast.Compare):
                    self.assertIn(above.func.id, ("sorted", "len"), (name, node.lineno))
                    self.assertFalse(above.keywords, (name, node.lineno))

    def test_doubled_underscores_and_words_that_are_barred(self):
        for path in FILES:
            text = path.read_text(encoding="ascii")
            for word in ("dataclass", "overload", "contextmanager", "(type)", "Meta", "metaclass=", "_wall"):
                self.assertNotIn(word, text, path)

    def test_names_of_methods_and_attributes_are_unlike(self):
        methods, attributes = set(), set()
        for tree in trees().values():
            for made in nodes(tree, ast.ClassDef):
                methods |= {node.name for node in made.body if isinstance(node, ast.FunctionDef)}
                attributes |= {node.attr for node in nodes(made, ast.Attribute) if isinstance(node.ctx, ast.Store)}
        self.assertFalse(methods & attributes)


if __name__ == "__main__":
    unittest.main()
