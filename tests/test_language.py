"""Rules of the language that can be seen file by file, for every file of the package."""

import ast
import re
import unittest
from pathlib import Path

PACKAGE = Path(__file__).resolve().parent.parent / "midfall"
FILES = sorted(PACKAGE.rglob("*.py"))
BUILTINS = set(
    "len range enumerate zip min max sum abs sorted reversed int str bool list tuple dict set frozenset isinstance"
    " ord repr any all divmod pow getattr hasattr setattr iter next map Exception ValueError TypeError KeyError"
    " IndexError LookupError ZeroDivisionError ArithmeticError OverflowError RuntimeError NotImplementedError"
    " AttributeError StopIteration NotImplemented property staticmethod classmethod super object float bytes".split()
)
PYTHON_BUILTINS = set(dir(__builtins__) if not isinstance(__builtins__, dict) else __builtins__)
BARRED_WORDS = re.compile(
    r"\b(typing|typing_extensions|enum|Enum|IntEnum|StrEnum|Flag|IntFlag|Generic|Protocol|ABC|ABCMeta|namedtuple"
    r"|NamedTuple|TypedDict|TYPE_CHECKING|abstractmethod|type)\b|dataclass|overload|contextmanager|Meta|metaclass="
)
DECORATORS = re.compile(r"property|staticmethod|classmethod|\w+\.setter")
BARRED_NODES = (ast.Global, ast.AsyncFunctionDef, ast.AsyncFor, ast.AsyncWith, ast.Await, ast.Import, ast.Div)


def bound_at_the_top(tree):
    """Return all names that a file binds at module level, imports included."""
    bound = []
    for node in tree.body:
        if isinstance(node, ast.ImportFrom):
            bound.extend(alias.name for alias in node.names)
        elif isinstance(node, ast.Assign):
            bound.extend(target.id for target in node.targets)
        elif isinstance(node, (ast.ClassDef, ast.FunctionDef)):
            bound.append(node.name)
    return bound


class LanguageTest(unittest.TestCase):
    def each(self):
        """Yield the text and the tree of each file."""
        for path in FILES:
            text = path.read_text(encoding="utf-8")
            yield text, ast.parse(text, str(path))

    def test_folder_holds_plain_files_only(self):
        self.assertIn(PACKAGE / "__init__.py", FILES)
        for path in PACKAGE.rglob("*"):
            if "__pycache__" not in path.parts:
                self.assertRegex(path.name, r"^[a-z][a-z0-9_]*\.py$|^__(init|main)__\.py$")

    def test_sizes_and_characters(self):
        for text, tree in self.each():
            self.assertRegex(text, r"\A[ -~\n]*\Z")
            self.assertLess(len(text.split("\n")), 400)
            self.assertLessEqual(max(len(line) for line in text.split("\n")), 120)
            for node in ast.walk(tree):
                if isinstance(node, ast.FunctionDef):
                    self.assertLessEqual(node.end_lineno - node.lineno, 39, node.name)

    def test_imports_name_the_files_of_the_package(self):
        for text, tree in self.each():
            for node in ast.walk(tree):
                if isinstance(node, ast.ImportFrom):
                    self.assertIn(node, tree.body)
                    if node.module not in ("heapq", "math", "itertools", "collections", "__future__"):
                        self.assertRegex(node.module, r"^midfall\.")
                        found = PACKAGE.parent / (node.module.replace(".", "/") + ".py")
                        defined = {getattr(item, "name", None) for item in ast.parse(found.read_text()).body}
                        self.assertLessEqual({alias.name for alias in node.names if alias.name.islower()}, defined)

    def test_no_barred_statements(self):
        for text, tree in self.each():
            for node in ast.walk(tree):
                self.assertNotIsInstance(node, BARRED_NODES)
                for decorator in getattr(node, "decorator_list", ()):
                    self.assertRegex(ast.unparse(decorator), DECORATORS)

    def test_only_listed_builtins(self):
        for text, tree in self.each():
            used = {node.id for node in ast.walk(tree) if isinstance(node, ast.Name)}
            self.assertLessEqual(used & PYTHON_BUILTINS, BUILTINS)

    def test_names_are_bound_once(self):
        """No parameter or local variable has the name of a class or an import of its file, or of a builtin."""
        for text, tree in self.each():
            known = {alias.name for node in tree.body if isinstance(node, ast.ImportFrom) for alias in node.names}
            known |= {node.name for node in tree.body if isinstance(node, ast.ClassDef)}
            self.assertEqual(len(bound_at_the_top(tree)), len(set(bound_at_the_top(tree))))
            for node in ast.walk(tree):
                if isinstance(node, ast.Name) and isinstance(node.ctx, ast.Store):
                    self.assertNotIn(node.id, known | PYTHON_BUILTINS)
                elif isinstance(node, ast.arg):
                    self.assertNotIn(node.arg, known | PYTHON_BUILTINS)

    def test_no_name_is_a_method_and_an_attribute(self):
        for text, tree in self.each():
            for owner in [node for node in tree.body if isinstance(node, ast.ClassDef)]:
                methods = [node.name for node in owner.body if isinstance(node, ast.FunctionDef)
                           and not any(ast.unparse(mark).endswith(".setter") for mark in node.decorator_list)]
                self.assertEqual(len(methods), len(set(methods)))
                stored = {node.attr for node in ast.walk(owner)
                          if isinstance(node, ast.Attribute) and isinstance(node.ctx, ast.Store)}
                self.assertEqual(stored & set(methods), set())

    def test_no_barred_words_and_no_percent_sign(self):
        for text, tree in self.each():
            code = ast.unparse(tree)
            self.assertIsNone(BARRED_WORDS.search(code))
            for node in ast.walk(tree):
                if isinstance(node, ast.Constant) and isinstance(node.value, str):
                    self.assertNotIn("%", node.value)


if __name__ == "__main__":
    unittest.main()
