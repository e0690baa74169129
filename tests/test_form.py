"""The form of the package's files: those rules of the language that a walk over the files can see."""

import ast
import builtins
import re
import unittest
from pathlib import Path

FOLDER = Path(__file__).resolve().parent.parent / "hoistworks"

NODES = """
    Module FunctionDef ClassDef Return Assign AugAssign For While If Raise Try ImportFrom Expr Pass Break Continue
    BoolOp BinOp UnaryOp Lambda IfExp Dict Set ListComp Compare Call JoinedStr FormattedValue Constant Attribute
    Subscript Name List Tuple Slice Load Store And Or Add Sub Mult Mod Pow LShift RShift BitOr BitXor BitAnd FloorDiv
    Invert Not UAdd USub Eq NotEq Lt LtE Gt GtE Is IsNot In NotIn comprehension ExceptHandler arguments arg keyword
    alias
""".split()
BUILT_IN = """
    len range enumerate zip min max sum abs sorted reversed int str bool list tuple dict set frozenset isinstance ord
    repr any all divmod Exception ValueError TypeError KeyError IndexError LookupError ZeroDivisionError
    ArithmeticError OverflowError RuntimeError NotImplementedError AttributeError StopIteration
""".split()
OWN_METHODS = """
    append clear copy count endswith extend find get index insert isalnum isalpha isdigit islower isspace isupper items
    join keys ljust lower lstrip partition pop remove replace reverse rfind rjust rpartition rsplit rstrip setdefault
    split splitlines startswith strip update upper values zfill bit_length
""".split()
TWO_UNDERSCORES = ("__init__", "__eq__", "__repr__", "__str__", "__len__")
WORDS_OUT = re.compile(
    r"\b(type|typing|typing_extensions|enum|Enum|IntEnum|StrEnum|Flag|IntFlag|Generic|Protocol|ABC|ABCMeta|namedtuple"
    r"|NamedTuple|TypedDict|TYPE_CHECKING|abstractmethod)\b|dataclass|overload|contextmanager")
WALKED = ("zip", "enumerate", "reversed", "range")
WALKERS = ("list", "tuple", "dict", "sorted", "sum", "any", "all", "enumerate", "zip", "min", "max")
NAMES_OUT = ("register", "mro", "elements", "open", "input", "version_info", "with_traceback", "add_note", "format",
             "format_map")


def files():
    return [(path, path.read_bytes().decode("ascii")) for path in sorted(FOLDER.glob("*.py"))]


def nodes(*kinds):
    """All nodes of these kinds, each with its place to tell where a test fails."""
    for path, text in files():
        for node in ast.walk(ast.parse(text)):
            if isinstance(node, kinds):
                yield f"{path.name}:{getattr(node, 'lineno', '?')}", node


def called(node):
    """The plain name that is called, if the node is such a call."""
    return node.func.id if isinstance(node, ast.Call) and isinstance(node.func, ast.Name) else None


def bound_names(tree):
    """The parameters and locals of all defs."""
    for node in ast.walk(tree):
        if isinstance(node, ast.arg):
            yield node.arg
        elif isinstance(node, ast.Name) and isinstance(node.ctx, ast.Store) and node.col_offset:
            yield node.id


class FormTest(unittest.TestCase):
    def test_only_plain_files_lie_in_the_package(self):
        names = [path.name for path in FOLDER.iterdir() if path.name != "__pycache__"]
        self.assertIn("__init__.py", names)
        for name in names:
            self.assertRegex(name, r"\A[a-z_][a-z0-9_]*\.py\Z")

    def test_signs_and_sizes(self):
        for path, text in files():
            rows = text.split("\n")
            self.assertRegex(text, r"\A[\n -~]*\Z", path)
            self.assertLessEqual(len(rows), 400, path)
            self.assertLessEqual(max(len(row) for row in rows), 120, path)
            self.assertIsNone(WORDS_OUT.search(text), path)
        for place, node in nodes(ast.FunctionDef):
            self.assertLessEqual(node.end_lineno - node.lineno + 1, 40, place)

    def test_statements_and_expressions(self):
        for place, node in nodes(ast.AST):
            self.assertIn(node.__class__.__name__, NODES, place)
        for place, node in nodes(ast.Assign):
            self.assertEqual(len(node.targets), 1, place)
        for place, node in nodes(ast.FunctionDef, ast.ClassDef):
            self.assertEqual(node.decorator_list, [], place)
        for place, node in nodes(ast.arguments):
            self.assertEqual((node.vararg, node.kwarg, node.kwonlyargs, node.posonlyargs), (None, None, [], []), place)
        for place, node in nodes(ast.Constant):
            self.assertIn(type(node.value), (int, str, bool, type(None)), place)
        for place, node in nodes(ast.For, ast.While):
            self.assertEqual(node.orelse, [], place)

    def test_imports(self):
        drawn = {"hoistworks." + path.stem: set() for path, text in files()}
        for place, node in nodes(ast.ImportFrom):
            self.assertEqual(node.level, 0, place)
            self.assertIn(node.module, drawn, place)
            drawn["hoistworks." + place.partition(".")[0]].add(node.module)
        while drawn:
            free = [name for name in drawn if not drawn[name] & set(drawn)]
            self.assertTrue(free, f"files that draw from one another: {sorted(drawn)}")
            for name in free:
                del drawn[name]

    def test_names_of_pythons_own(self):
        for place, node in nodes(ast.Name):
            if isinstance(node.ctx, ast.Store):
                self.assertNotIn(node.id, dir(builtins), place)
            elif node.id in dir(builtins):
                self.assertIn(node.id, BUILT_IN, place)
        for place, node in nodes(ast.arg):
            self.assertNotIn(node.arg, dir(builtins), place)

    def test_names_are_plain(self):
        spoken = {ast.Name: "id", ast.arg: "arg", ast.Attribute: "attr", ast.FunctionDef: "name", ast.ClassDef: "name"}
        for place, node in nodes(*spoken):
            name = getattr(node, spoken[node.__class__])
            self.assertNotIn(name, NAMES_OUT, place)
            if name not in TWO_UNDERSCORES:
                self.assertRegex(name, r"\A[A-Za-z][A-Za-z0-9_]*\Z", place)

    def test_methods_and_values_of_objects(self):
        methods = {item.name for place, node in nodes(ast.ClassDef) for item in node.body
                   if isinstance(item, ast.FunctionDef)}
        for place, node in nodes(ast.Attribute):
            if isinstance(node.ctx, ast.Store):
                self.assertNotIn(node.attr, methods, place)
        for place, node in nodes(ast.Call):
            if isinstance(node.func, ast.Attribute):
                self.assertIn(node.func.attr, sorted(methods) + OWN_METHODS, place)

    def test_comprehensions_and_annotations(self):
        for place, node in nodes(ast.ListComp):
            self.assertEqual(len(node.generators), 1, place)
            self.assertLessEqual(len(node.generators[0].ifs), 1, place)
        for place, node in nodes(ast.FunctionDef):
            self.assertIsNone(node.returns, place)
        for place, node in nodes(ast.arg):
            self.assertIsNone(node.annotation, place)

    def test_each_name_once(self):
        for path, text in files():
            tree = ast.parse(text)
            imports = [alias.name for node in tree.body if isinstance(node, ast.ImportFrom) for alias in node.names]
            defs = [node.name for node in tree.body if isinstance(node, (ast.FunctionDef, ast.ClassDef))]
            values = [node.targets[0].id for node in tree.body if isinstance(node, ast.Assign)]
            tops = imports + defs + values
            self.assertEqual(sorted(tops), sorted(set(tops)), path)
            self.assertEqual(set(bound_names(tree)) & set(tops), set(), path)

    def test_names_are_drawn_from_the_file_that_defines_them(self):
        defined = {}
        for path, text in files():
            for node in ast.parse(text).body:
                if isinstance(node, (ast.FunctionDef, ast.ClassDef)):
                    defined[node.name, "hoistworks." + path.stem] = True
                elif isinstance(node, ast.Assign):
                    defined[node.targets[0].id, "hoistworks." + path.stem] = True
        for place, node in nodes(ast.ImportFrom):
            for alias in node.names:
                self.assertIn((alias.name, node.module), defined, place)
                self.assertIsNone(alias.asname, place)

    def test_errors(self):
        for place, node in nodes(ast.Raise):
            self.assertIsInstance(node.exc, ast.Call, place)
        for place, node in nodes(ast.Try):
            self.assertEqual((node.finalbody, len(node.handlers)), ([], 1), place)
            taken = node.handlers[0].type.id
            self.assertNotIn(taken, ("Exception", "TypeError", "IndexError", "LookupError"), place)
            if taken == "ValueError":
                calls = [called(part) for row in node.body for part in ast.walk(row) if isinstance(part, ast.Call)]
                self.assertEqual((len(node.body), calls), (1, ["int"]), place)

    def test_is_stands_beside_plain_values(self):
        for place, node in nodes(ast.Compare):
            if isinstance(node.ops[0], (ast.Is, ast.IsNot)):
                self.assertIsInstance(node.comparators[0], ast.Constant, place)
                self.assertIn(node.comparators[0].value, (None, True, False), place)

    def test_walked_at_once(self):
        walked = []
        for place, node in nodes(ast.For, ast.comprehension):
            walked.append(node.iter)
        for place, node in nodes(ast.Call):
            if called(node) in WALKERS:
                walked.extend(node.args)
        many = [node for place, node in nodes(ast.Call) if called(node) in WALKED]
        self.assertEqual(len(many), len([node for node in walked if called(node) in WALKED]))

    def test_texts(self):
        for place, node in nodes(ast.Constant):
            if isinstance(node.value, str):
                self.assertNotIn("%", node.value, place)
        for place, node in nodes(ast.FormattedValue):
            self.assertIsInstance(node.value, ast.Name, place)
            self.assertIsNone(node.format_spec, place)


if __name__ == "__main__":
    unittest.main()
