"""The rules of the language subset that can be read off the package's files one by one."""

import ast
import builtins
import functools
import pathlib
import re
import unittest

PACKAGE = pathlib.Path(__file__).resolve().parent.parent / "pictureframes"
LIBRARY = {
    "heapq": {"heappush", "heappop", "heapify", "heapreplace", "heappushpop"},
    "math": {"gcd", "lcm", "isqrt", "comb", "perm", "factorial"},
    "itertools": {
        "product", "combinations", "permutations", "chain", "accumulate", "pairwise", "islice", "zip_longest",
    },
    "collections": {"defaultdict", "deque"},
}
BUILTINS = set("""
    len range enumerate zip min max sum abs sorted reversed int str bool bytes list tuple dict set isinstance ord repr
    any all divmod pow getattr hasattr setattr iter next map property staticmethod classmethod super type
    Exception ValueError TypeError KeyError IndexError LookupError ZeroDivisionError ArithmeticError OverflowError
    RuntimeError NotImplementedError AttributeError StopIteration NotImplemented
""".split())
VALUE_METHODS = set("""
    append clear copy count endswith extend find get index insert isalnum isalpha isdigit islower isspace isupper items
    join keys ljust lower lstrip partition pop remove replace reverse rfind rjust rpartition rsplit rstrip setdefault
    split splitlines startswith strip update upper values zfill bit_length title capitalize swapcase casefold center
    expandtabs removeprefix removesuffix rindex isascii isdecimal isnumeric istitle isidentifier isprintable translate
    add discard sort appendleft popleft extendleft rotate from_iterable format setter
""".split())
DUNDERS = set("""
    init eq repr str len enter exit call iter lt le gt ge ne add sub mul floordiv mod pow and or xor lshift rshift
    radd rsub rmul rfloordiv rmod rand ror rxor rlshift rrshift iadd isub imul ifloordiv imod ipow iand ior ixor
    ilshift irshift neg pos invert abs bool contains getitem setitem
""".split())
BARRED_NODES = (
    ast.AsyncFunctionDef, ast.AsyncFor, ast.AsyncWith, ast.Await, ast.Div, ast.MatMult, ast.Import,
)
BARRED_WORDS = re.compile(
    r"\b(typing|typing_extensions|enum|Enum|IntEnum|StrEnum|Flag|IntFlag|Generic|Protocol|ABC|ABCMeta|namedtuple"
    r"|NamedTuple|TypedDict|TYPE_CHECKING|abstractmethod|register|mro|elements|open|input|law|version_info"
    r"|with_traceback|add_note)\b|dataclass|overload|contextmanager|\(type\)|Meta|metaclass=|_wall"
)


@functools.cache
def sources():
    """Return (file name, text, tree) for each file of the package."""
    found = []
    for path in sorted(PACKAGE.glob("*.py")):
        text = path.read_text(encoding="utf-8")
        found.append((path.name, text, ast.parse(text)))
    return found


def nodes(kind):
    """Return (place, node) for each node of this kind in the package."""
    return [
        (f"{name}:{node.lineno}", node)
        for name, text, tree in sources() for node in ast.walk(tree) if isinstance(node, kind)
    ]


class TestLanguage(unittest.TestCase):

    def test_files(self):
        for path in PACKAGE.iterdir():
            if path.name != "__pycache__":
                self.assertRegex(path.name, r"^[a-z_][a-z0-9_]*\.py$")
        self.assertIn("__init__.py", [name for name, text, tree in sources()])

    def test_characters_and_sizes(self):
        for name, text, tree in sources():
            lines = text.split("\n")
            self.assertLessEqual(len(lines), 399, name)
            for number, line in enumerate(lines, start=1):
                self.assertLessEqual(len(line), 120, f"{name}:{number}")
                self.assertRegex(line, r"^[ -~]*$", f"{name}:{number}")

    def test_functions_are_short(self):
        for place, node in nodes(ast.FunctionDef):
            self.assertLessEqual(node.end_lineno - node.lineno + 1, 40, place)

    def test_words(self):
        for name, text, tree in sources():
            self.assertIsNone(BARRED_WORDS.search(text), name)

    def test_imports(self):
        for place, node in nodes(ast.ImportFrom):
            self.assertEqual(node.level, 0, place)
            names = {alias.name for alias in node.names}
            self.assertNotIn("*", names, place)
            if node.module in LIBRARY:
                self.assertLessEqual(names, LIBRARY[node.module], place)
            else:
                self.assertRegex(node.module, r"^(pictureframes\.[a-z_]+|__future__)$", place)

    def test_nodes(self):
        self.assertEqual([place for place, node in nodes(BARRED_NODES)], [])

    def test_builtins(self):
        for place, node in nodes(ast.Name):
            if hasattr(builtins, node.id):
                self.assertIn(node.id, BUILTINS, place)
                self.assertIsInstance(node.ctx, ast.Load, place)

    def test_names_of_parameters(self):
        for place, node in nodes(ast.arg):
            self.assertFalse(hasattr(builtins, node.arg), place)

    def test_called_methods(self):
        own = {node.name for place, node in nodes(ast.FunctionDef)}
        for place, node in nodes(ast.Call):
            if isinstance(node.func, ast.Attribute):
                self.assertIn(node.func.attr, VALUE_METHODS | own, place)

    def test_double_underscores(self):
        for place, node in nodes(ast.FunctionDef):
            if node.name.startswith("__"):
                self.assertIn(node.name.strip("_"), DUNDERS, place)

    def test_decorators(self):
        allowed = r"^(property|staticmethod|classmethod|[a-z_]+\.setter)$"
        for place, node in nodes((ast.FunctionDef, ast.ClassDef)):
            for decorator in node.decorator_list:
                self.assertRegex(ast.unparse(decorator), allowed, place)

    def test_constants(self):
        docstrings = [node.value for place, node in nodes(ast.Expr)]
        for place, node in nodes(ast.Constant):
            self.assertNotIsInstance(node.value, (float, complex), place)
            if isinstance(node.value, str) and node not in docstrings:
                self.assertNotIn("%", node.value, place)

    def test_is_stands_beside_constants(self):
        for place, node in nodes(ast.Compare):
            for sign, right in zip(node.ops, node.comparators):
                if isinstance(sign, (ast.Is, ast.IsNot)):
                    self.assertIsInstance(right, ast.Constant, place)

    def test_module_level(self):
        allowed = (ast.Expr, ast.ImportFrom, ast.FunctionDef, ast.ClassDef, ast.Assign)
        for name, text, tree in sources():
            for node in tree.body:
                self.assertIsInstance(node, allowed, f"{name}:{node.lineno}")
                if isinstance(node, ast.Expr):
                    self.assertIsInstance(node.value, ast.Constant, f"{name}:{node.lineno}")

    def test_no_two_files_import_from_each_other(self):
        needs = {}
        for name, text, tree in sources():
            modules = [node.module for node in ast.walk(tree) if isinstance(node, ast.ImportFrom)]
            needs[name] = [module.split(".")[1] + ".py" for module in modules if module.startswith("pictureframes.")]
        while needs:
            free = [name for name in needs if not any(other in needs for other in needs[name])]
            self.assertNotEqual(free, [], f"a circle of imports among {sorted(needs)}")
            for name in free:
                del needs[name]


if __name__ == "__main__":
    unittest.main()
