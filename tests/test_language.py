"""Looks through the package's files: that nothing in them can reach a clock, chance or files ([1]),
and that they keep to those rules of the language (L1 to L28) that a walk over the code can see."""

import ast
import builtins
import pathlib
import re
import unittest

PACKAGE = pathlib.Path(__file__).resolve().parent.parent / "namewell"
FILES = sorted(PACKAGE.rglob("*.py"))

STATEMENTS = (
    ast.Assign, ast.AugAssign, ast.If, ast.While, ast.For, ast.Return, ast.Break, ast.Continue, ast.Pass, ast.Raise,
    ast.Try, ast.Expr, ast.FunctionDef, ast.ClassDef, ast.ImportFrom,
)
EXPRESSIONS = (
    ast.BoolOp, ast.BinOp, ast.UnaryOp, ast.Lambda, ast.IfExp, ast.Dict, ast.Set, ast.ListComp, ast.Compare, ast.Call,
    ast.JoinedStr, ast.FormattedValue, ast.Constant, ast.Attribute, ast.Subscript, ast.Name, ast.List, ast.Tuple,
    ast.Slice,
)
BUILT_IN = set("""
    len range enumerate zip min max sum abs sorted reversed int str bool list tuple dict set frozenset isinstance ord
    repr any all divmod Exception ValueError TypeError KeyError IndexError LookupError ZeroDivisionError
    ArithmeticError OverflowError RuntimeError NotImplementedError StopIteration
""".split())
METHODS = set("""
    append clear copy count endswith extend find get index insert isalnum isalpha isdigit islower isspace isupper
    items join keys ljust lower lstrip partition pop remove replace reverse rfind rjust rpartition rsplit rstrip
    setdefault split splitlines startswith strip update upper values zfill bit_length __init__
""".split())
# what may stand round zip, items and their like, beside a for
WALKERS = ("list", "tuple", "dict", "sorted", "sum", "any", "all", "enumerate", "zip", "min", "max", "join")
WALKED = ("zip", "enumerate", "reversed", "range", "items", "keys", "values")
KEYWORDS = {"sorted": ("key", "reverse"), "min": ("key", "default"), "max": ("key", "default"), "sum": ("start",),
            "enumerate": ("start",), "zip": ("strict",)}
# names that are used nowhere, and what an object's value may be called of Python's own names
UNUSED = ("register", "mro", "elements", "open", "input", "version_info", "with_traceback", "add_note")
FREE_VALUES = ("count", "index", "title", "find", "get", "join", "lower", "upper", "split", "strip", "copy", "add")
PYTHONS = {one for kind in (str, int, list, dict, set, bytes, tuple) for one in dir(kind)}
WORDS = re.compile(
    r"\b(type|typing|typing_extensions|enum|Enum|IntEnum|StrEnum|Flag|IntFlag|Generic|Protocol|ABC|ABCMeta|namedtuple"
    r"|NamedTuple|TypedDict|TYPE_CHECKING|abstractmethod)\b|dataclass|overload|contextmanager")


def module_of(path):
    parts = path.relative_to(PACKAGE.parent).with_suffix("").parts
    return ".".join(parts[:-1] if parts[-1] == "__init__" else parts)


TREES = {module_of(path): ast.parse(path.read_text(encoding="ascii")) for path in FILES}


def top_names(tree):
    names = []
    for node in tree.body:
        if isinstance(node, (ast.FunctionDef, ast.ClassDef)):
            names.append(node.name)
        elif isinstance(node, ast.Assign):
            names.append(node.targets[0].id)
    return names


def draws(tree):
    return [node for node in ast.walk(tree) if isinstance(node, ast.ImportFrom)]


def bound_names(tree):
    names = top_names(tree) + [alias.name for node in draws(tree) for alias in node.names]
    for node in ast.walk(tree):
        if isinstance(node, ast.arg):
            names.append(node.arg)
        elif isinstance(node, ast.Name) and isinstance(node.ctx, ast.Store):
            names.append(node.id)
        elif isinstance(node, ast.ExceptHandler) and node.name:
            names.append(node.name)
        elif isinstance(node, ast.FunctionDef):
            names.append(node.name)
    return names


def called(node):
    """the name of what is called, of a function or a method"""
    return node.func.id if isinstance(node.func, ast.Name) else getattr(node.func, "attr", None)


def classes(tree):
    return [node for node in ast.walk(tree) if isinstance(node, ast.ClassDef)]


def own_methods():
    return {part.name for tree in TREES.values() for node in classes(tree) for part in node.body
            if isinstance(part, ast.FunctionDef)}


def own_values():
    return {node.attr for tree in TREES.values() for node in ast.walk(tree)
            if isinstance(node, ast.Attribute) and isinstance(node.ctx, ast.Store)}


class LanguageTest(unittest.TestCase):
    def each_node(self):
        for module, tree in TREES.items():
            for node in ast.walk(tree):
                yield f"{module}, line {getattr(node, 'lineno', '?')}", node

    def test_files(self):
        self.assertIn("namewell", TREES)
        for path in PACKAGE.rglob("*"):
            if "__pycache__" in path.parts:
                continue
            with self.subTest(path=path):
                self.assertRegex(path.name, r"^([a-z][a-z0-9_]*|__init__|__main__)\.py$")
                text = path.read_text(encoding="ascii")
                self.assertRegex(text, r"\A[ -~\n]*\Z")
                self.assertIsNone(WORDS.search(text))
                lines = text.split("\n")
                self.assertLessEqual(len(lines), 400)
                self.assertLessEqual(max(map(len, lines)), 120)

    def test_draws_from_the_package_alone(self):
        for module, tree in TREES.items():
            for node in draws(tree):
                with self.subTest(module=module, line=node.lineno):
                    self.assertEqual(node.level, 0)
                    self.assertIn(node.module, TREES)
                    self.assertIn(node, tree.body)
                    for alias in node.names:
                        self.assertIn(alias.name, top_names(TREES[node.module]))

    def test_no_two_files_draw_from_one_another(self):
        drawn = {module: {node.module for node in draws(tree)} for module, tree in TREES.items()}
        while drawn:
            free = [module for module in drawn if not drawn[module] & set(drawn)]
            self.assertNotEqual(free, [], drawn)
            for module in free:
                drawn.pop(module)

    def test_top_of_a_file(self):
        for module, tree in TREES.items():
            self.assertIsNotNone(ast.get_docstring(tree), module)
            names = top_names(tree)
            self.assertEqual(len(names), len(set(names)), module)
            for node in tree.body[1:]:
                with self.subTest(module=module, line=node.lineno):
                    self.assertIsInstance(node, (ast.ImportFrom, ast.FunctionDef, ast.ClassDef, ast.Assign))

    def test_statements_and_expressions(self):
        for place, node in self.each_node():
            if isinstance(node, ast.stmt):
                self.assertIsInstance(node, STATEMENTS, place)
            elif isinstance(node, ast.expr):
                self.assertIsInstance(node, EXPRESSIONS, place)
            if isinstance(node, ast.Assign):
                self.assertEqual(len(node.targets), 1, place)
                self.assertNotIsInstance(node.targets[0], (ast.Tuple, ast.List), place)
            elif isinstance(node, (ast.For, ast.While)):
                self.assertEqual(node.orelse, [], place)
            elif isinstance(node, ast.Try):
                self.assertEqual(node.finalbody, [], place)
            elif isinstance(node, ast.ListComp):
                self.assertEqual(len(node.generators), 1, place)
                self.assertLessEqual(len(node.generators[0].ifs), 1, place)
            elif isinstance(node, ast.FormattedValue):
                self.assertIsInstance(node.value, ast.Name, place)
                self.assertIsNone(node.format_spec, place)
            elif isinstance(node, (ast.Div, ast.MatMult)):
                self.fail("no division in the package")

    def test_values(self):
        for place, node in self.each_node():
            if isinstance(node, ast.Constant):
                self.assertIn(node.value.__class__.__name__, ("int", "str", "bool", "NoneType"), place)
                self.assertNotIn("\x25", str(node.value), place)

    def test_is_stands_beside_none_and_truths(self):
        for place, node in self.each_node():
            if isinstance(node, ast.Compare):
                for way, side in zip(node.ops, node.comparators):
                    if isinstance(way, (ast.Is, ast.IsNot)):
                        self.assertIsInstance(side, ast.Constant, place)

    def test_functions_and_classes(self):
        for place, node in self.each_node():
            if isinstance(node, ast.FunctionDef):
                self.assertLessEqual(node.end_lineno - node.lineno + 1, 40, place)
                self.assertEqual(node.decorator_list, [], place)
                for more in (node.args.vararg, node.args.kwarg, node.returns):
                    self.assertIsNone(more, place)
                self.assertEqual(node.args.kwonlyargs + node.args.posonlyargs, [], place)
            elif isinstance(node, ast.ClassDef):
                self.assertEqual(node.decorator_list, [], place)
                self.assertLessEqual(len(node.bases), 1, place)
                for part in node.body:
                    self.assertIsInstance(part, (ast.FunctionDef, ast.Pass), place)

    def test_names_are_the_files_own_or_few_of_pythons(self):
        for module, tree in TREES.items():
            bound = bound_names(tree)
            for name in bound:
                with self.subTest(module=module, name=name):
                    self.assertNotIn(name, BUILT_IN)
                    if name != "__init__":
                        self.assertRegex(name, r"^[A-Za-z][A-Za-z0-9_]*$")
            for node in ast.walk(tree):
                if isinstance(node, ast.Name):
                    with self.subTest(module=module, line=node.lineno):
                        self.assertTrue(node.id in bound or node.id in BUILT_IN, node.id)

    def test_methods(self):
        own = own_methods()
        for place, node in self.each_node():
            if isinstance(node, ast.Call) and isinstance(node.func, ast.Attribute):
                self.assertIn(node.func.attr, METHODS | own, place)

    def test_methods_are_called_where_they_stand(self):
        for place, node in self.each_node():
            here = [part for part in ast.iter_child_nodes(node) if isinstance(part, ast.Attribute)]
            for part in here:
                if part.attr in METHODS | own_methods():
                    as_key = isinstance(node, ast.keyword) and node.arg == "key"
                    self.assertTrue(as_key or isinstance(node, ast.Call) and part is node.func, place)

    def test_no_name_is_a_method_and_a_value(self):
        self.assertEqual(own_methods() & own_values(), set())
        for name in own_values():
            self.assertTrue(name in FREE_VALUES or name not in PYTHONS, name)
        for name in own_methods():
            self.assertTrue(name in METHODS | {"add", "discard"} or name not in PYTHONS, name)
        for tree in TREES.values():
            for node in classes(tree):
                self.assertIn(node, tree.body)
                names = [part.name for part in node.body if isinstance(part, ast.FunctionDef)]
                self.assertEqual(len(names), len(set(names)), node.name)

    def test_names_that_are_not_used(self):
        for place, node in self.each_node():
            self.assertNotIn(getattr(node, "attr", None), UNUSED, place)
            self.assertNotIn(getattr(node, "id", None), UNUSED, place)

    def test_locals_are_called_like_nothing_else(self):
        for module, tree in TREES.items():
            taken = {alias.name for node in draws(tree) for alias in node.names} | {node.name for node in classes(tree)}
            for node in ast.walk(tree):
                name = getattr(node, "arg", None) if isinstance(node, ast.arg) else None
                if isinstance(node, ast.Name) and isinstance(node.ctx, ast.Store):
                    name = node.id
                if name is not None:
                    self.assertNotIn(name, taken | set(dir(builtins)), f"{module}, line {node.lineno}")

    def test_calls_by_themselves(self):
        for module, tree in TREES.items():
            for node in ast.walk(tree):
                if isinstance(node, ast.Expr) and node is not tree.body[0]:
                    self.assertIsInstance(node.value, ast.Call, f"{module}, line {node.lineno}")

    def test_walked_on_the_spot(self):
        for place, node in self.each_node():
            for field, part in ast.iter_fields(node):
                for one in part if isinstance(part, list) else [part]:
                    if isinstance(one, ast.Call) and called(one) in WALKED:
                        walks = field == "iter" or isinstance(node, ast.Call) and called(node) in WALKERS
                        self.assertTrue(walks, place)

    def test_sets_are_not_kept(self):
        for place, node in self.each_node():
            for part in ast.iter_child_nodes(node):
                if isinstance(part, ast.Call) and called(part) in ("set", "frozenset") or isinstance(part, ast.Set):
                    beside = isinstance(node, (ast.Compare, ast.BinOp))
                    self.assertTrue(beside or isinstance(node, ast.Call) and called(node) in ("sorted", "len"), place)

    def test_keywords_and_keys(self):
        for place, node in self.each_node():
            if isinstance(node, ast.Call):
                for one in node.keywords:
                    self.assertIn(one.arg, KEYWORDS.get(called(node), ()), place)

    def test_errors_are_made_on_the_spot(self):
        for place, node in self.each_node():
            if isinstance(node, ast.Raise):
                self.assertIsInstance(node.exc, ast.Call, place)
            elif isinstance(node, ast.ExceptHandler):
                self.assertIsInstance(node.type, ast.Name, place)
                self.assertNotIn(node.type.id, ("Exception", "TypeError", "ValueError", "LookupError"), place)


if __name__ == "__main__":
    unittest.main()
