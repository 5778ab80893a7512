"""Those rules of the language that are quickly seen: sizes, signs, imports, names and numbers."""

import ast
import builtins
import pathlib
import re
import unittest
import warnings

import runroots

FOLDER = pathlib.Path(runroots.__file__).parent
BUILTINS = set("""
    len range enumerate zip min max sum abs sorted reversed int str bool bytes list tuple dict set frozenset isinstance
    ord repr any all divmod pow iter next super Exception ValueError TypeError KeyError IndexError LookupError
    ZeroDivisionError ArithmeticError OverflowError RuntimeError NotImplementedError AttributeError StopIteration
    property staticmethod classmethod map
""".split())
LIBRARY = {
    "heapq": "heappush heappop heapify heapreplace heappushpop", "math": "gcd lcm isqrt comb perm factorial",
    "itertools": "product combinations permutations chain accumulate pairwise islice zip_longest",
    "collections": "defaultdict deque",
}
WORDS = """typing typing_extensions enum Enum IntEnum StrEnum Flag IntFlag Generic Protocol ABC ABCMeta namedtuple
    NamedTuple TypedDict TYPE_CHECKING abstractmethod dataclass register mro elements open input law""".split()


def bound_names(tree):
    for node in ast.walk(tree):
        if isinstance(node, ast.Name) and isinstance(node.ctx, ast.Store):
            yield node.id
        if isinstance(node, (ast.FunctionDef, ast.ClassDef)):
            yield node.name
        if isinstance(node, ast.arg):
            yield node.arg


class Language(unittest.TestCase):
    def setUp(self):
        self.texts = {path: path.read_text(encoding="utf-8") for path in sorted(FOLDER.rglob("*.py"))}
        self.trees = {path: ast.parse(text) for path, text in self.texts.items()}

    def nodes(self, *kinds):
        return [(path.name, node) for path, tree in self.trees.items() for node in ast.walk(tree)
                if isinstance(node, kinds)]

    def test_the_folder_holds_python_alone(self):
        others = [path.name for path in FOLDER.rglob("*") if "__pycache__" not in path.parts and path.suffix != ".py"]
        self.assertEqual(others, [])
        self.assertIn(FOLDER / "__init__.py", self.texts)

    def test_lines_and_signs(self):
        for path, text in self.texts.items():
            self.assertLessEqual(text.count("\n"), 399, path.name)
            self.assertTrue(all(" " <= sign <= "~" or sign == "\n" for sign in text), path.name)
            self.assertLessEqual(max(map(len, text.split("\n"))), 120, path.name)

    def test_functions_are_short(self):
        for name, node in self.nodes(ast.FunctionDef):
            self.assertLessEqual(node.end_lineno - node.lineno + 1, 40, (name, node.name))

    def test_imports(self):
        for name, node in self.nodes(ast.Import):
            self.assertEqual((name, [alias.name for alias in node.names]), ("__main__.py", ["sys"]))
        for name, node in self.nodes(ast.ImportFrom):
            words = [alias.name for alias in node.names]
            if node.module in LIBRARY:
                self.assertTrue(set(words) <= set(LIBRARY[node.module].split()), (name, words))
            elif node.module != "__future__":
                self.assertRegex(node.module, r"^runroots\.[a-z]+$")
                tree = self.trees[FOLDER / (node.module.split(".")[1] + ".py")]
                self.assertTrue(set(words) <= set(bound_names(tree)), (name, words))

    def test_no_other_builtins_and_none_bound(self):
        known = set(dir(builtins))
        for name, node in self.nodes(ast.Name):
            if node.id in known:
                self.assertIn(node.id, BUILTINS, name)
        for path, tree in self.trees.items():
            self.assertEqual(known & set(bound_names(tree)) - {"__init__"}, set(), path.name)

    def test_no_words_that_are_barred(self):
        for path, text in self.texts.items():
            for word in WORDS:
                self.assertIsNone(re.search(rf"\b{word}\b", text), (path.name, word))

    def test_numbers_and_strings(self):
        for name, node in self.nodes(ast.Constant):
            self.assertNotIsInstance(node.value, (float, complex), name)
        for name, node in self.nodes(ast.BinOp):
            self.assertNotIsInstance(node.op, (ast.Div, ast.MatMult), name)
            if isinstance(node.op, ast.Pow):
                self.assertIsInstance(node.right, ast.Constant, name)

    def test_python_has_no_warnings(self):
        with warnings.catch_warnings():
            warnings.simplefilter("error")
            for path, text in self.texts.items():
                compile(text, str(path), "exec")


if __name__ == "__main__":
    unittest.main()
