"""The form of the package's code: those rules of the language that a short check can see."""

import ast
import builtins
import pathlib
import re
import unittest

FOLDER = pathlib.Path(__file__).resolve().parent.parent / "forgetwork"
FILES = sorted(FOLDER.glob("*.py"))

BUILTINS = set("""len range enumerate zip min max sum abs sorted reversed int str bool bytes list tuple dict set frozenset
isinstance ord repr any all divmod pow getattr hasattr setattr iter next map property staticmethod classmethod super
Exception ValueError TypeError KeyError IndexError LookupError ZeroDivisionError ArithmeticError OverflowError
RuntimeError NotImplementedError AttributeError StopIteration NotImplemented""".split())
METHODS = set("""__init__ __eq__ __repr__ __str__ __len__ __enter__ __exit__ __call__ __iter__""".split())
WORDS = re.compile(r"\b(type|typing|enum|Enum|Generic|Protocol|ABC|namedtuple|NamedTuple|TypedDict|register|mro|elements"
                   r"|open|input|law|eval|exec|globals|locals|vars|dir|id|help|os|gc)\b|dataclass|overload|contextmanager")
# A doctest that has run before leaves the name _ among the builtins.
ALL_BUILTINS = set(dir(builtins)) - {"_"}
NODES = (ast.GeneratorExp, ast.Yield, ast.YieldFrom, ast.Global, ast.AsyncFunctionDef, ast.Await, ast.Div, ast.Import,
         ast.AsyncFor, ast.AsyncWith)


def tree_of(path):
    return ast.parse(path.read_text())


def every(tree, kinds):
    return [node for node in ast.walk(tree) if isinstance(node, kinds)]


def defined(tree):
    """The names that a file defines at its module level."""
    names = [node.name for node in tree.body if isinstance(node, (ast.FunctionDef, ast.ClassDef))]
    return names + [node.targets[0].id for node in tree.body if isinstance(node, ast.Assign)]


def words_of(tree):
    """The names, attributes and strings of a file, without its docstrings."""
    docs = [node.body[0].value for node in every(tree, (ast.Module, ast.FunctionDef, ast.ClassDef))
            if node.body and isinstance(node.body[0], ast.Expr)]
    found = [node.value for node in every(tree, ast.Constant) if isinstance(node.value, str) and node not in docs]
    found += [node.id for node in every(tree, ast.Name)] + [node.attr for node in every(tree, ast.Attribute)]
    return found + [node.arg for node in every(tree, ast.arg)] + [node.name for node in every(tree, ast.FunctionDef)]


class FormTest(unittest.TestCase):
    def test_only_plain_files(self):
        others = [path for path in FOLDER.iterdir() if path not in FILES and path.name != "__pycache__"]
        self.assertEqual(others, [])
        self.assertTrue(all(re.fullmatch("[a-z_0-9]+", path.stem) for path in FILES))

    def test_sizes_and_characters(self):
        for path in FILES:
            text = path.read_text()
            self.assertLessEqual(len(text.splitlines()), 399, path)
            self.assertLessEqual(max(len(line) for line in text.splitlines()), 120, path)
            self.assertTrue(all(sign == "\n" or " " <= sign <= "~" for sign in text), path)
            for node in every(tree_of(path), ast.FunctionDef):
                self.assertLessEqual(node.end_lineno - node.lineno + 1, 40, (path, node.name))

    def test_statements_and_expressions(self):
        for path in FILES:
            tree = tree_of(path)
            self.assertEqual([node.lineno for node in every(tree, NODES)], [], path)
            for node in every(tree, ast.Constant):
                self.assertNotIsInstance(node.value, (float, complex), path)
            for node in every(tree, ast.Constant):
                self.assertFalse(isinstance(node.value, str) and "%" in node.value, path)
            for node in every(tree, (ast.FunctionDef, ast.ClassDef)):
                self.assertIn([ast.unparse(name) for name in node.decorator_list], ([], ["property"]), path)
                dunder = node.name.startswith("__")
                self.assertTrue(not dunder or node.name in METHODS, (path, node.name))

    def test_errors_and_identity(self):
        for path in FILES:
            tree = tree_of(path)
            imported = [alias.name for node in every(tree, ast.ImportFrom) for alias in node.names]
            for node in every(tree, ast.ExceptHandler):
                self.assertIn(getattr(node.type, "id", None), imported, (path, node.lineno))
            for node in every(tree, ast.Raise):
                self.assertIsInstance(node.exc, (ast.Call, type(None)), (path, node.lineno))
            for node in every(tree, ast.Compare):
                for sign, side in zip(node.ops, node.comparators):
                    single = isinstance(side, ast.Constant) and (side.value is None or isinstance(side.value, bool))
                    self.assertTrue(single or not isinstance(sign, (ast.Is, ast.IsNot)), (path, node.lineno))

    def test_the_end_of_a_with_block_only_assigns(self):
        for path in FILES:
            for node in every(tree_of(path), ast.FunctionDef):
                if node.name == "__exit__":
                    for row in node.body:
                        self.assertIsInstance(row, ast.Assign, path)
                        self.assertIsInstance(row.value, (ast.Name, ast.Attribute), path)
                        self.assertIsInstance(row.targets[0], (ast.Name, ast.Attribute), path)

    def test_imports(self):
        trees = {path.stem: tree_of(path) for path in FILES}
        above = {}
        for stem, tree in trees.items():
            above[stem] = []
            for node in every(tree, ast.ImportFrom):
                package, _, name = node.module.partition(".")
                self.assertEqual((package, node.level, node in tree.body), ("forgetwork", 0, True), stem)
                self.assertLessEqual({alias.name for alias in node.names}, set(defined(trees[name])), stem)
                above[stem].append(name)
        while above:
            free = [stem for stem in above if not any(name in above for name in above[stem])]
            self.assertNotEqual(free, [], "files import from each other")
            above = {stem: names for stem, names in above.items() if stem not in free}

    def test_module_level(self):
        kinds = (ast.Expr, ast.ImportFrom, ast.FunctionDef, ast.ClassDef, ast.Assign)
        for path in FILES:
            body = tree_of(path).body
            self.assertTrue(all(isinstance(node, kinds) for node in body), path)
            names = defined(tree_of(path))
            self.assertEqual(len(names), len(set(names)), path)

    def test_names(self):
        for path in FILES:
            tree = tree_of(path)
            bound = {alias.name for node in every(tree, ast.ImportFrom) for alias in node.names}
            bound |= {node.name for node in every(tree, ast.ClassDef)} | ALL_BUILTINS
            stored = [node.id for node in every(tree, ast.Name) if not isinstance(node.ctx, ast.Load)]
            stored += [node.arg for node in every(tree, ast.arg)]
            self.assertEqual([name for name in stored if name in bound], [], path)
            used = {node.id for node in every(tree, ast.Name)} & ALL_BUILTINS
            self.assertLessEqual(used, BUILTINS, path)
            self.assertEqual([word for word in words_of(tree) if WORDS.search(word)], [], path)


if __name__ == "__main__":
    unittest.main()
