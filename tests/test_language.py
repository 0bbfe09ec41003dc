"""The rules of form that can be seen in the package's files: what they may hold, and how large they may be."""

import ast
import builtins
import re
import unittest
from pathlib import Path

PACKAGE = Path(__file__).resolve().parent.parent / "evenclimb"

OWN_NAMES = set("""len range enumerate zip min max sum abs sorted reversed int str bool list tuple dict set frozenset
    isinstance ord repr any all divmod Exception ValueError TypeError KeyError IndexError LookupError ZeroDivisionError
    ArithmeticError OverflowError RuntimeError NotImplementedError AttributeError StopIteration""".split())
OWN_METHODS = set("""append clear copy count endswith extend find get index insert isalnum isalpha isdigit islower
    isspace isupper items join keys ljust lower lstrip partition pop remove replace reverse rfind rjust rpartition rsplit
    rstrip setdefault split splitlines startswith strip update upper values zfill bit_length""".split())
TWO_UNDERSCORES = set("__init__ __eq__ __repr__ __str__ __len__".split())
BARRED_WORDS = re.compile(r"\b(type|typing|typing_extensions|enum|Enum|IntEnum|StrEnum|Flag|IntFlag|Generic|Protocol|ABC|"
                          r"ABCMeta|namedtuple|NamedTuple|TypedDict|TYPE_CHECKING|abstractmethod)\b"
                          r"|dataclass|overload|contextmanager")
BARRED_NAMES = set("register mro elements open input version_info with_traceback add_note format format_map".split())
BARRED_NODES = tuple(getattr(ast, name) for name in """With AsyncWith Match Delete Global Nonlocal Assert Yield YieldFrom
    AsyncFunctionDef AsyncFor Await SetComp DictComp GeneratorExp NamedExpr Starred Div MatMult Import AnnAssign
    TryStar""".split())
TOP_NODES = (ast.ImportFrom, ast.FunctionDef, ast.ClassDef, ast.Assign)


def files():
    return sorted(PACKAGE.rglob("*.py"))


def own_attributes(trees):
    """The names of all methods and all values that the package's own classes have."""
    methods, values = set(), set()
    for node in [node for tree in trees for node in ast.walk(tree)]:
        if isinstance(node, ast.ClassDef):
            methods |= {part.name for part in node.body if isinstance(part, ast.FunctionDef)}
        if isinstance(node, ast.Attribute) and isinstance(node.ctx, ast.Store):
            values.add(node.attr)
    return methods, values


def bound_names(tree):
    for node in ast.walk(tree):
        if isinstance(node, ast.Name) and isinstance(node.ctx, ast.Store):
            yield node.id
        elif isinstance(node, ast.arg):
            yield node.arg
        elif isinstance(node, (ast.FunctionDef, ast.ClassDef)):
            yield node.name


class LanguageTest(unittest.TestCase):
    def setUp(self):
        self.texts = {path.name: path.read_text(encoding="utf-8") for path in files()}
        self.trees = {name: ast.parse(text) for name, text in self.texts.items()}

    def walk(self, *kinds):
        for name, tree in self.trees.items():
            for node in ast.walk(tree):
                if isinstance(node, kinds):
                    yield f"{name}:{getattr(node, 'lineno', 0)}", node

    def test_the_folder_holds_python_files_alone(self):
        for path in PACKAGE.rglob("*"):
            if "__pycache__" not in path.parts:
                self.assertRegex(path.name, r"^[a-z0-9_]+\.py$")
        self.assertIn("__init__.py", self.texts)

    def test_signs_and_words(self):
        for name, text in self.texts.items():
            self.assertRegex(text, r"\A[ -~\n]*\Z", name)
            self.assertIsNone(BARRED_WORDS.search(text), name)

    def test_sizes(self):
        for name, text in self.texts.items():
            self.assertLessEqual(len(text.splitlines()), 400, name)
            self.assertLessEqual(max(len(line) for line in text.splitlines()), 120, name)
        for place, node in self.walk(ast.FunctionDef):
            self.assertLessEqual(node.end_lineno - node.lineno + 1, 40, place)

    def test_statements_and_expressions(self):
        for place, node in self.walk(*BARRED_NODES):
            self.fail(f"{place}: {type(node).__name__}")
        for place, node in self.walk(ast.ListComp):
            self.assertEqual(len(node.generators), 1, place)
            self.assertLessEqual(len(node.generators[0].ifs), 1, place)
        for place, node in self.walk(ast.Assign):
            self.assertEqual(len(node.targets), 1, place)
        for place, node in self.walk(ast.For, ast.While):
            self.assertEqual(node.orelse, [], place)
        for place, node in self.walk(ast.Try):
            self.assertEqual(node.finalbody, [], place)
        for place, node in self.walk(ast.FunctionDef, ast.ClassDef):
            self.assertEqual(node.decorator_list, [], place)
        for place, node in self.walk(ast.Constant):
            self.assertTrue(node.value is None or isinstance(node.value, (int, str)), place)

    def test_is_stands_beside_none_and_truths(self):
        for place, node in self.walk(ast.Compare):
            if any(isinstance(sign, (ast.Is, ast.IsNot)) for sign in node.ops):
                self.assertIsInstance(node.comparators[0], ast.Constant, place)

    def test_tops_and_imports(self):
        for name, tree in self.trees.items():
            self.assertIsNotNone(ast.get_docstring(tree), name)
            for node in tree.body[1:]:
                self.assertIsInstance(node, TOP_NODES, name)
        for place, node in self.walk(ast.ImportFrom):
            self.assertEqual(node.level, 0, place)
            self.assertRegex(node.module, r"^evenclimb\.[a-z_]+$", place)
            top = self.trees[node.module.split(".")[1] + ".py"]
            defined = set(bound_names(ast.Module(body=top.body, type_ignores=[])))
            for alias in node.names:
                self.assertIn(alias.name, defined, place)

    def test_names(self):
        for name, tree in self.trees.items():
            for bound in bound_names(tree):
                self.assertTrue(bound in TWO_UNDERSCORES or not bound.startswith("_"), (name, bound))
                self.assertNotIn(bound, BARRED_NAMES, name)
                if bound not in TWO_UNDERSCORES:
                    self.assertFalse(hasattr(builtins, bound), (name, bound))
        for place, node in self.walk(ast.Name):
            if isinstance(node.ctx, ast.Load) and hasattr(builtins, node.id):
                self.assertIn(node.id, OWN_NAMES, place)

    def test_locals_are_not_called_like_classes_or_imports(self):
        for name, tree in self.trees.items():
            taken = {alias.name for node in tree.body if isinstance(node, ast.ImportFrom) for alias in node.names}
            taken |= {node.name for node in tree.body if isinstance(node, (ast.ClassDef, ast.FunctionDef))}
            for node in ast.walk(tree):
                if isinstance(node, ast.arg) or isinstance(node, ast.Name) and isinstance(node.ctx, ast.Store):
                    self.assertNotIn(getattr(node, "arg", None) or getattr(node, "id", None), taken, name)

    def test_no_two_files_draw_from_one_another(self):
        drawn = {name[:-3]: {node.module.split(".")[1] for node in tree.body if isinstance(node, ast.ImportFrom)}
                 for name, tree in self.trees.items()}
        while drawn:
            ready = {name for name, others in drawn.items() if not others & set(drawn)}
            self.assertTrue(ready, f"these draw from one another: {sorted(drawn)}")
            drawn = {name: others for name, others in drawn.items() if name not in ready}

    def test_values_at_the_top_are_plain_and_only_read(self):
        for name, tree in self.trees.items():
            for top in [node for node in tree.body if isinstance(node, ast.Assign)]:
                inner = [node for node in ast.walk(top.value) if node is not top.value]
                self.assertFalse([node for node in inner if isinstance(node, (ast.List, ast.Dict, ast.Set, ast.Call))], name)
            kept = {node.targets[0].id for node in tree.body if isinstance(node, ast.Assign)}
            for node in ast.walk(tree):
                if isinstance(node, ast.Attribute) and isinstance(node.value, ast.Name) and node.value.id in kept:
                    self.assertIn(node.attr, ("get", "index", "count"), name)
                if isinstance(node, ast.Subscript) and not isinstance(node.ctx, ast.Load):
                    self.assertNotIn(getattr(node.value, "id", None), kept, name)

    def test_sets_are_not_kept(self):
        straight = set()
        for place, node in self.walk(ast.Call):
            if getattr(node.func, "id", None) in ("sorted", "len") and not node.keywords:
                straight |= {id(argument) for argument in node.args}
        for place, node in self.walk(ast.Set):
            self.fail(place)
        for place, node in self.walk(ast.Call):
            if getattr(node.func, "id", None) in ("set", "frozenset"):
                self.assertIn(id(node), straight, place)

    def test_what_is_walked_at_once_is_not_kept(self):
        walked = set()
        for place, node in self.walk(ast.For, ast.comprehension):
            walked.add(id(node.iter))
        for place, node in self.walk(ast.Call):
            if getattr(node.func, "id", None) in ("list", "tuple", "dict", "sorted", "sum", "any", "all", "enumerate", "zip"):
                walked |= {id(argument) for argument in node.args[:1]}
        for place, node in self.walk(ast.Call):
            if getattr(node.func, "id", None) in ("zip", "enumerate", "reversed", "range"):
                self.assertIn(id(node), walked, place)

    def test_texts_and_powers(self):
        for place, node in self.walk(ast.Constant):
            if isinstance(node.value, str):
                self.assertNotIn("%", node.value, place)
        for place, node in self.walk(ast.BinOp):
            if isinstance(node.op, ast.Pow):
                self.assertIsInstance(node.right, ast.Constant, place)
        for place, node in self.walk(ast.FormattedValue):
            self.assertIsInstance(node.value, ast.Name, place)

    def test_keywords(self):
        known = {"sorted": {"key", "reverse"}, "min": {"key", "default"}, "max": {"key", "default"}, "sum": {"start"},
                 "enumerate": {"start"}, "zip": {"strict"}}
        for place, node in self.walk(ast.Call):
            told = {keyword.arg for keyword in node.keywords}
            self.assertLessEqual(told, known.get(getattr(node.func, "id", None), set()), place)

    def test_methods_and_values(self):
        methods, values = own_attributes(self.trees.values())
        self.assertEqual(methods & values, set())
        for place, node in self.walk(ast.Attribute):
            self.assertIn(node.attr, OWN_METHODS | TWO_UNDERSCORES | methods | values, place)


if __name__ == "__main__":
    unittest.main()
