"""The form of the package's files: those rules of the language that a walk over the files can see."""

import ast
import builtins
import re
import unittest
from pathlib import Path

FOLDER = Path(__file__).resolve().parent.parent / "hoistworks"

NODES = """
    Module FunctionDef ClassDef Return Assign AugAssign For While If Raise Try ImportFrom Expr Pass Break Continue
    BoolOp BinOp UnaryOp Lambda IfExp Dict Set ListComp Compare Call JoinedStr FormattedValue Constant Attribute
    Subscript Name List Tuple Slice Load Store And Or Add Sub Mult Mod Pow LShift RShift BitOr BitXor BitAnd FloorDiv
    Invert Not UAdd USub Eq NotEq Lt LtE Gt GtE Is IsNot In NotIn comprehension ExceptHandler arguments arg keyword
    alias
""".split()
BUILT_IN = """
    len range enumerate zip min max sum abs sorted reversed int str bool list tuple dict set frozenset isinstance ord
    repr any all divmod Exception ValueError TypeError KeyError IndexError LookupError ZeroDivisionError
    ArithmeticError OverflowError RuntimeError NotImplementedError AttributeError StopIteration
""".split()
OWN_METHODS = """
    append clear copy count endswith extend find get index insert isalnum isalpha isdigit islower isspace isupper items
    join keys ljust lower lstrip partition pop remove replace reverse rfind rjust rpartition rsplit rstrip setdefault
    split splitlines startswith strip update upper values zfill bit_length
""".split()
TWO_UNDERSCORES = ("__init__", "__eq__", "__repr__", "__str__", "__len__")
WORDS_OUT = re.compile(
    r"\b(type|typing|typing_extensions|enum|Enum|IntEnum|StrEnum|Flag|IntFlag|Generic|Protocol|ABC|ABCMeta|namedtuple"
    r"|NamedTuple|TypedDict|TYPE_CHECKING|abstractmethod)\b|dataclass|overload|contextmanager")
NAMES_OUT = ("register", "mro", "elements", "open", "input", "version_info", "with_traceback", "add_note", "format",
             "format_map")


def files():
    return [(path, path.read_bytes().decode("ascii")) for path in sorted(FOLDER.glob("*.py"))]


def nodes(*kinds):
    """All nodes of these kinds, each with its place to tell where a test fails."""
    for path, text in files():
        for node in ast.walk(ast.parse(text)):
            if isinstance(node, kinds):
                yield f"{path.name}:{getattr(node, 'lineno', '?')}", node


class FormTest(unittest.TestCase):
    def test_only_plain_files_lie_in_the_package(self):
        names = [path.name for path in FOLDER.iterdir() if path.name != "__pycache__"]
        self.assertIn("__init__.py", names)
        for name in names:
            self.assertRegex(name, r"\A[a-z_][a-z0-9_]*\.py\Z")

    def test_signs_and_sizes(self):
        for path, text in files():
            rows = text.split("\n")
            self.assertRegex(text, r"\A[\n -~]*\Z", path)
            self.assertLessEqual(len(rows), 400, path)
            self.assertLessEqual(max(len(row) for row in rows), 120, path)
            self.assertIsNone(WORDS_OUT.search(text), path)
        for place, node in nodes(ast.FunctionDef):
            self.assertLessEqual(node.end_lineno - node.lineno + 1, 40, place)

    def test_statements_and_expressions(self):
        for place, node in nodes(ast.AST):
            self.assertIn(node.__class__.__name__, NODES, place)
        for place, node in nodes(ast.Assign):
            self.assertEqual(len(node.targets), 1, place)
        for place, node in nodes(ast.FunctionDef, ast.ClassDef):
            self.assertEqual(node.decorator_list, [], place)
        for place, node in nodes(ast.arguments):
            self.assertEqual((node.vararg, node.kwarg, node.kwonlyargs, node.posonlyargs), (None, None, [], []), place)
        for place, node in nodes(ast.Constant):
            self.assertIn(type(node.value), (int, str, bool, type(None)), place)
        for place, node in nodes(ast.For, ast.While):
            self.assertEqual(node.orelse, [], place)

    def test_imports(self):
        drawn = {"hoistworks." + path.stem: set() for path, text in files()}
        for place, node in nodes(ast.ImportFrom):
            self.assertEqual(node.level, 0, place)
            self.assertIn(node.module, drawn, place)
            drawn["hoistworks." + place.partition(".")[0]].add(node.module)
        while drawn:
            free = [name for name in drawn if not drawn[name] & set(drawn)]
            self.assertTrue(free, f"files that draw from one another: {sorted(drawn)}")
            for name in free:
                del drawn[name]

    def test_names_of_pythons_own(self):
        for place, node in nodes(ast.Name):
            if isinstance(node.ctx, ast.Store):
                self.assertNotIn(node.id, dir(builtins), place)
            elif node.id in dir(builtins):
                self.assertIn(node.id, BUILT_IN, place)
        for place, node in nodes(ast.arg):
            self.assertNotIn(node.arg, dir(builtins), place)

    def test_names_are_plain(self):
        spoken = {ast.Name: "id", ast.arg: "arg", ast.Attribute: "attr", ast.FunctionDef: "name", ast.ClassDef: "name"}
        for place, node in nodes(*spoken):
            name = getattr(node, spoken[node.__class__])
            self.assertNotIn(name, NAMES_OUT, place)
            if name not in TWO_UNDERSCORES:
                self.assertRegex(name, r"\A[A-Za-z][A-Za-z0-9_]*\Z", place)

    def test_methods_and_values_of_objects(self):
        methods = {item.name for place, node in nodes(ast.ClassDef) for item in node.body
                   if isinstance(item, ast.FunctionDef)}
        for place, node in nodes(ast.Attribute):
            if isinstance(node.ctx, ast.Store):
                self.assertNotIn(node.attr, methods, place)
        for place, node in nodes(ast.Call):
            if isinstance(node.func, ast.Attribute):
                self.assertIn(node.func.attr, sorted(methods) + OWN_METHODS, place)


if __name__ == "__main__":
    unittest.main()
