"""The package's files keep to the plainest rules of the language that the program is written in."""

import ast
import builtins
import pathlib
import re
import unittest

PACKAGE = pathlib.Path(__file__).resolve().parent.parent / "rookborders"

OWN_NAMES = set(
    "len range enumerate zip min max sum abs sorted reversed int str bool bytes list tuple dict set frozenset "
    "isinstance ord repr any all divmod Exception ValueError TypeError KeyError IndexError LookupError "
    "ZeroDivisionError ArithmeticError OverflowError RuntimeError NotImplementedError AttributeError "
    "StopIteration".split()
)
METHODS = set(
    "append clear copy count endswith extend find get index insert isalnum isalpha isdigit islower isspace "
    "isupper items join keys ljust lower lstrip partition pop remove replace reverse rfind rjust rpartition "
    "rsplit rstrip setdefault split splitlines startswith strip update upper values zfill bit_length title "
    "capitalize swapcase casefold center expandtabs removeprefix removesuffix rindex isascii isdecimal "
    "isnumeric istitle isidentifier isprintable translate maketrans add discard sort encode decode hex "
    "fromhex to_bytes from_bytes __init__".split()
)
OUT = (
    ast.With, ast.Match, ast.Global, ast.Nonlocal, ast.Yield, ast.YieldFrom, ast.AsyncFunctionDef, ast.AsyncFor,
    ast.AsyncWith, ast.Await, ast.GeneratorExp, ast.NamedExpr, ast.Div, ast.MatMult, ast.Import, ast.TryStar,
)
WORDS = re.compile(
    r"\b(type|typing|typing_extensions|enum|Enum|IntEnum|StrEnum|Flag|IntFlag|Generic|Protocol|ABC|ABCMeta|"
    r"namedtuple|NamedTuple|TypedDict|TYPE_CHECKING|abstractmethod)\b|dataclass|overload|contextmanager"
)
PYTHONS_METHODS = ("__init__", "__eq__", "__repr__", "__str__", "__len__")


def nodes_of(tree, kind):
    return [node for node in ast.walk(tree) if isinstance(node, kind)]


def methods_of(tree):
    return [node for kind in nodes_of(tree, ast.ClassDef) for node in kind.body if isinstance(node, ast.FunctionDef)]


def names_bound(tree):
    """The names that a file binds, those of methods left out."""
    methods = methods_of(tree)
    names = [node.id for node in nodes_of(tree, ast.Name) if isinstance(node.ctx, ast.Store)]
    names += [node.arg for node in nodes_of(tree, ast.arg)]
    defs = nodes_of(tree, (ast.FunctionDef, ast.ClassDef))
    return names + [node.name for node in defs if node not in methods]


class LanguageTest(unittest.TestCase):
    def setUp(self):
        self.texts = {path: path.read_text(encoding="utf-8") for path in sorted(PACKAGE.rglob("*.py"))}
        self.trees = {path: ast.parse(text) for path, text in self.texts.items()}

    def test_nothing_else_lies_in_the_package(self):
        names = [path.name for path in PACKAGE.iterdir() if path.name != "__pycache__"]
        self.assertIn("__init__.py", names)
        self.assertEqual([name for name in names if not re.fullmatch(r"[a-z0-9_]+\.py", name)], [])

    def test_signs_and_sizes(self):
        for path, text in self.texts.items():
            with self.subTest(path.name):
                self.assertEqual(re.findall(r"[^ -~\n]", text), [])
                rows = text.split("\n")
                self.assertLessEqual(len(rows), 400)
                self.assertEqual([row for row in rows if len(row) > 120], [])

    def test_functions_are_short(self):
        for path, tree in self.trees.items():
            with self.subTest(path.name):
                for node in nodes_of(tree, ast.FunctionDef):
                    self.assertLessEqual(node.end_lineno - node.lineno + 1, 40, node.name)

    def test_words_that_stand_nowhere(self):
        for path, text in self.texts.items():
            with self.subTest(path.name):
                self.assertEqual([found.group() for found in WORDS.finditer(text)], [])

    def test_imports_are_the_packages_own_by_name(self):
        for path, tree in self.trees.items():
            with self.subTest(path.name):
                for node in nodes_of(tree, ast.ImportFrom):
                    self.assertIn(node, tree.body)
                    self.assertEqual(node.level, 0)
                    self.assertTrue(node.module == "__future__" or node.module.startswith("rookborders."))
                    self.assertNotIn("*", [alias.name for alias in node.names])

    def test_forms_that_are_out(self):
        for path, tree in self.trees.items():
            with self.subTest(path.name):
                self.assertEqual(nodes_of(tree, OUT), [])
                floats = [node for node in nodes_of(tree, ast.Constant) if isinstance(node.value, (float, complex))]
                self.assertEqual(floats, [])
                decorated = [node for node in nodes_of(tree, (ast.FunctionDef, ast.ClassDef)) if node.decorator_list]
                self.assertEqual(decorated, [])

    def test_names(self):
        for path, tree in self.trees.items():
            with self.subTest(path.name):
                bound = names_bound(tree)
                methods = [node.name for node in methods_of(tree) if node.name not in PYTHONS_METHODS]
                self.assertEqual([name for name in bound + methods if name.startswith("_")], [])
                self.assertEqual([name for name in bound if hasattr(builtins, name)], [])

    def test_pythons_own_names(self):
        for path, tree in self.trees.items():
            with self.subTest(path.name):
                read = {node.id for node in nodes_of(tree, ast.Name) if hasattr(builtins, node.id)}
                self.assertEqual(sorted(read - OWN_NAMES), [])

    def test_is_stands_beside_none_and_truths_alone(self):
        for path, tree in self.trees.items():
            with self.subTest(path.name):
                for node in nodes_of(tree, ast.Compare):
                    for sign, thing in zip(node.ops, node.comparators):
                        if isinstance(sign, (ast.Is, ast.IsNot)):
                            self.assertIsInstance(thing, ast.Constant)
                            self.assertIn(thing.value, (None, True, False))

    def test_each_name_of_a_top_once_and_no_local_like_an_import_or_a_class(self):
        for path, tree in self.trees.items():
            with self.subTest(path.name):
                rows = nodes_of(tree, ast.ImportFrom)
                imported = [alias.asname or alias.name for row in rows for alias in row.names]
                kinds = [node.name for node in nodes_of(tree, ast.ClassDef)]
                defs = [node.name for node in tree.body if isinstance(node, ast.FunctionDef)]
                given = [name.id for node in tree.body if isinstance(node, ast.Assign) for name in node.targets]
                top = imported + kinds + defs + given
                self.assertEqual(len(top), len(set(top)))
                within = [node.id for node in nodes_of(tree, ast.Name) if isinstance(node.ctx, ast.Store)]
                within += [node.arg for node in nodes_of(tree, ast.arg)]
                self.assertEqual([name for name in within if name in imported + kinds], [])

    def test_names_are_drawn_from_the_file_that_defines_them_and_never_round(self):
        drawn = {}
        for path, tree in self.trees.items():
            rows = nodes_of(tree, ast.ImportFrom)
            drawn[path.stem] = [row.module.rpartition(".")[2] for row in rows if row.module != "__future__"]
            for row in rows:
                if row.module != "__future__":
                    source = self.trees[PACKAGE / (row.module.rpartition(".")[2] + ".py")]
                    self.assertLessEqual({alias.name for alias in row.names}, set(names_bound(source)), path.name)
        while drawn:
            free = [name for name in drawn if not set(drawn[name]) & set(drawn)]
            self.assertNotEqual(free, [], drawn)
            drawn = {name: drawn[name] for name in drawn if name not in free}

    def test_sets_are_not_walked(self):
        for path, tree in self.trees.items():
            with self.subTest(path.name):
                kept = [
                    node.targets[0].id
                    for node in nodes_of(tree, ast.Assign)
                    if isinstance(node.value, (ast.Set, ast.SetComp)) or ast.unparse(node.value).startswith("set(")
                ]
                for node in nodes_of(tree, (ast.For, ast.comprehension)):
                    self.assertNotIsInstance(node.iter, (ast.Set, ast.SetComp))
                    self.assertNotIn(ast.unparse(node.iter), kept)
                    self.assertFalse(ast.unparse(node.iter).startswith("set("))

    def test_texts_and_powers(self):
        for path, tree in self.trees.items():
            with self.subTest(path.name):
                texts = [node.value for node in nodes_of(tree, ast.Constant) if isinstance(node.value, str)]
                self.assertEqual([text for text in texts if "%" in text], [])
                powers = [node for node in nodes_of(tree, ast.BinOp) if isinstance(node.op, ast.Pow)]
                self.assertEqual([node for node in powers if not isinstance(node.right, ast.Constant)], [])

    def test_the_top_of_a_file(self):
        plain = (ast.Expr, ast.ImportFrom, ast.FunctionDef, ast.ClassDef, ast.Assign)
        for path, tree in self.trees.items():
            with self.subTest(path.name):
                self.assertEqual([node for node in tree.body if not isinstance(node, plain)], [])
                # A docstring alone stands there by itself, and no value holds a call or a comprehension.
                self.assertEqual([node for node in tree.body[1:] if isinstance(node, ast.Expr)], [])
                given = [node.value for node in tree.body if isinstance(node, ast.Assign)]
                out = (ast.Call, ast.ListComp, ast.DictComp, ast.SetComp, ast.Set, ast.Lambda)
                self.assertEqual([node for value in given for node in nodes_of(value, out)], [])
                kinds = nodes_of(tree, ast.ClassDef)
                inner = [node for kind in kinds for node in kind.body if not isinstance(node, (ast.FunctionDef, ast.Expr))]
                self.assertEqual(inner, [])

    def test_tops_lists_and_dicts_hold_own_defs_and_plain_values_and_are_not_handed_on(self):
        for path, tree in self.trees.items():
            with self.subTest(path.name):
                defs = [node.name for node in tree.body if isinstance(node, ast.FunctionDef)]
                kept = []
                for node in tree.body:
                    if isinstance(node, ast.Assign) and isinstance(node.value, (ast.List, ast.Dict)):
                        names = [name.id for name in nodes_of(node.value, ast.Name)]
                        self.assertEqual([name for name in names if name not in defs], [])
                        self.assertEqual(len(nodes_of(node.value, (ast.List, ast.Dict))), 1)
                        kept.append(node.targets[0].id)
                for node in nodes_of(tree, (ast.Return, ast.Assign)):
                    if isinstance(node.value, ast.Name):
                        self.assertNotIn(node.value.id, kept)
                for node in nodes_of(tree, ast.Call):
                    handed = [thing.id for thing in node.args if isinstance(thing, ast.Name)]
                    self.assertEqual([name for name in handed if name in kept], [])

    def test_plain_parameters_and_keywords(self):
        for path, tree in self.trees.items():
            with self.subTest(path.name):
                for node in nodes_of(tree, ast.arguments):
                    self.assertEqual((node.vararg, node.kwarg, node.posonlyargs, node.defaults), (None, None, [], []))
                for node in nodes_of(tree, ast.Call):
                    if node.keywords:
                        self.assertEqual((node.func.id, [word.arg for word in node.keywords]), ("sorted", ["reverse"]))
                self.assertEqual(nodes_of(tree, (ast.Starred, ast.AnnAssign)), [])
                self.assertEqual([node for node in nodes_of(tree, ast.arg) if node.annotation], [])
                loops = nodes_of(tree, (ast.For, ast.While))
                self.assertEqual([node for node in loops if node.orelse], [])

    def test_walked_at_once(self):
        takers = ("list", "tuple", "dict", "sorted", "sum", "any", "all", "enumerate", "zip", "min", "max")
        for path, tree in self.trees.items():
            with self.subTest(path.name):
                walked = [node.iter for node in nodes_of(tree, (ast.For, ast.comprehension))]
                for node in nodes_of(tree, ast.Call):
                    if isinstance(node.func, ast.Name) and node.func.id in takers:
                        walked += node.args[:1]
                for node in nodes_of(tree, ast.Call):
                    called = node.func.id if isinstance(node.func, ast.Name) else node.func.attr
                    if called in ("zip", "enumerate", "reversed", "range", "items", "keys", "values"):
                        self.assertIn(node, walked, ast.unparse(node))

    def test_what_is_walked_is_not_changed(self):
        changes = ("append", "clear", "extend", "insert", "pop", "remove", "reverse", "setdefault", "update", "sort")
        for path, tree in self.trees.items():
            for loop in nodes_of(tree, ast.For):
                walked = [name.id for name in nodes_of(loop.iter, ast.Name)]
                for node in nodes_of(loop, ast.Call):
                    if isinstance(node.func, ast.Attribute) and node.func.attr in changes:
                        self.assertNotIn(ast.unparse(node.func.value), walked, path.name)
                for node in nodes_of(loop, ast.Subscript):
                    if not isinstance(node.ctx, ast.Load):
                        self.assertNotIn(ast.unparse(node.value), walked, path.name)

    def test_errors_are_raised_and_taken_by_own_names(self):
        own = {kind.name for kind in nodes_of(self.trees[PACKAGE / "errors.py"], ast.ClassDef)}
        for path, tree in self.trees.items():
            with self.subTest(path.name):
                for node in nodes_of(tree, ast.Raise):
                    self.assertIsInstance(node.exc, ast.Call)
                    self.assertIn(node.exc.func.id, own)
                for node in nodes_of(tree, ast.ExceptHandler):
                    taken = {name.id for name in nodes_of(node.type, ast.Name)}
                    self.assertLessEqual(taken, own)
                    self.assertTrue(taken)

    def test_methods_and_values(self):
        given = set()
        for tree in self.trees.values():
            given |= {node.attr for node in nodes_of(tree, ast.Attribute) if isinstance(node.ctx, ast.Store)}
            given |= {node.name for node in methods_of(tree)}
        for path, tree in self.trees.items():
            with self.subTest(path.name):
                asked = {node.attr for node in nodes_of(tree, ast.Attribute) if isinstance(node.ctx, ast.Load)}
                self.assertEqual(sorted(asked - METHODS - given), [])


if __name__ == "__main__":
    unittest.main()
