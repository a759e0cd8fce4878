"""Those of LANGUAGE.md's rules that can be seen in the package's files without running them."""

import ast
import builtins
import pathlib
import re
import unittest

PACKAGE = pathlib.Path(__file__).resolve().parent.parent / "teamsatonce"

OWN_NAMES = set("""len range enumerate zip min max sum abs sorted reversed int str bool list tuple dict set frozenset
    isinstance ord repr any all divmod Exception ValueError TypeError KeyError IndexError LookupError
    ZeroDivisionError ArithmeticError OverflowError RuntimeError NotImplementedError AttributeError
    StopIteration""".split())
OWN_METHODS = set("""append clear copy count endswith extend find get index insert isalnum isalpha isdigit islower
    isspace isupper items join keys ljust lower lstrip partition pop remove replace reverse rfind rjust rpartition
    rsplit rstrip setdefault split splitlines startswith strip update upper values zfill bit_length""".split())
WORDS = re.compile(r"\b(type|typing|typing_extensions|enum|Enum|IntEnum|StrEnum|Flag|IntFlag|Generic|Protocol|ABC|"
                   r"ABCMeta|namedtuple|NamedTuple|TypedDict|TYPE_CHECKING|abstractmethod)\b|"
                   r"dataclass|overload|contextmanager")
BARRED = (ast.With, ast.Delete, ast.Global, ast.Nonlocal, ast.Assert, ast.Yield, ast.YieldFrom, ast.Await,
          ast.AsyncFunctionDef, ast.AsyncFor, ast.AsyncWith, ast.Match, ast.Div, ast.SetComp, ast.DictComp,
          ast.GeneratorExp, ast.NamedExpr, ast.Starred, ast.Import, ast.AnnAssign)


def builtin_methods():
    kinds = (str, int, list, tuple, dict, set, bytes)
    return {name for kind in kinds for name in vars(kind) if not name.startswith("_")}


class LanguageTest(unittest.TestCase):
    def setUp(self):
        self.texts = {path: path.read_bytes().decode("ascii") for path in sorted(PACKAGE.glob("*.py"))}
        self.trees = {path: ast.parse(text) for path, text in self.texts.items()}

    def nodes(self, *kinds):
        return [(f"{path.name}:{node.lineno}", node) for path, tree in self.trees.items()
                for node in ast.walk(tree) if isinstance(node, kinds)]

    def test_only_plain_python_files(self):
        names = [path.name for path in PACKAGE.iterdir() if path.name != "__pycache__"]
        self.assertIn("__init__.py", names)
        for name in names:
            self.assertRegex(name, r"\A([a-z][a-z0-9_]*|__init__|__main__)\.py\Z")

    def test_signs_and_sizes(self):
        for path, text in self.texts.items():
            self.assertRegex(text, r"\A[\n -~]*\Z", path)
            self.assertLessEqual(len(text.splitlines()), 400, path)
            self.assertLessEqual(max(map(len, text.splitlines())), 120, path)
        for where, node in self.nodes(ast.FunctionDef):
            self.assertLessEqual(node.end_lineno - node.lineno + 1, 40, where)

    def test_words(self):
        for path, text in self.texts.items():
            self.assertIsNone(WORDS.search(text), path)

    def test_barred_forms(self):
        self.assertEqual([where for where, node in self.nodes(*BARRED)], [])

    def test_imports_are_of_the_package_alone(self):
        for where, node in self.nodes(ast.ImportFrom):
            self.assertTrue(node.level == 0 and node.module.startswith("teamsatonce."), where)
            self.assertNotIn("*", [alias.name for alias in node.names], where)

    def test_functions_and_classes_are_plain(self):
        for where, node in self.nodes(ast.FunctionDef):
            parts = node.args
            self.assertFalse(node.decorator_list or parts.vararg or parts.kwarg or parts.kwonlyargs, where)
        for where, node in self.nodes(ast.ClassDef):
            self.assertFalse(node.decorator_list or len(node.bases) > 1, where)

    def test_one_target_and_no_else_behind_a_loop(self):
        for where, node in self.nodes(ast.Assign):
            self.assertEqual(len(node.targets), 1, where)
        for where, node in self.nodes(ast.For, ast.While):
            self.assertFalse(node.orelse, where)

    def test_names(self):
        for where, node in self.nodes(ast.Name, ast.arg):
            name = node.id if isinstance(node, ast.Name) else node.arg
            self.assertFalse(name.startswith("_"), where)
            if hasattr(builtins, name):
                self.assertIn(name, OWN_NAMES, where)
                self.assertTrue(isinstance(node, ast.Name) and isinstance(node.ctx, ast.Load), where)

    def test_methods_of_pythons_own_values(self):
        barred = builtin_methods() - OWN_METHODS
        for where, node in self.nodes(ast.Attribute):
            self.assertNotIn(node.attr, barred, where)

    def test_no_name_is_a_method_and_a_value(self):
        methods = {part.name for where, node in self.nodes(ast.ClassDef) for part in node.body
                   if isinstance(part, ast.FunctionDef)}
        given = {node.attr for where, node in self.nodes(ast.Attribute) if isinstance(node.ctx, ast.Store)}
        self.assertEqual(methods & given, set())

    def test_powers_have_a_written_exponent(self):
        for where, node in self.nodes(ast.BinOp):
            if isinstance(node.op, (ast.Pow, ast.LShift)):
                self.assertIsInstance(node.right, ast.Constant, where)

    def test_comprehensions_have_one_for(self):
        for where, node in self.nodes(ast.ListComp):
            self.assertTrue(len(node.generators) == 1 and len(node.generators[0].ifs) <= 1, where)

    def test_plain_constants(self):
        for where, node in self.nodes(ast.Constant):
            self.assertIsInstance(node.value, (int, str, type(None)), where)
            if isinstance(node.value, str):
                self.assertNotIn("%", node.value, where)


if __name__ == "__main__":
    unittest.main()
