"""That the package keeps to the part of Python it is written in, as far as its text shows it."""

import ast
import builtins
import os
import re
import unittest

ROOT = os.path.dirname(os.path.dirname(os.path.abspath(__file__)))
PACKAGE = os.path.join(ROOT, "endwise")

OWN_NAMES = set(
    "len range enumerate zip min max sum abs sorted reversed int str bool list tuple dict set frozenset isinstance ord"
    " repr any all divmod Exception ValueError TypeError KeyError IndexError LookupError ZeroDivisionError"
    " ArithmeticError OverflowError RuntimeError NotImplementedError AttributeError StopIteration".split()
)
METHODS = set(
    "append clear copy count endswith extend find get index insert isalnum isalpha isdigit islower isspace isupper items"
    " join keys ljust lower lstrip partition pop remove replace reverse rfind rjust rpartition rsplit rstrip setdefault"
    " split splitlines startswith strip update upper values zfill bit_length".split()
)
PYTHONS_METHODS = set().union(*(dir(kind) for kind in (str, int, list, dict, set, bytes, tuple, frozenset)))
FORBIDDEN_NAMES = set(
    "register mro elements open input version_info with_traceback add_note attrgetter breakpoint builtins compile"
    " copyright credits delattr dir eval exec exit gc getattr globals hasattr help id importlib license locals"
    " methodcaller os quit setattr super vars sys format format_map".split()
)
FORBIDDEN_WORDS = re.compile(
    r"\b(type|typing|typing_extensions|enum|Enum|IntEnum|StrEnum|Flag|IntFlag|Generic|Protocol|ABC|ABCMeta|namedtuple"
    r"|NamedTuple|TypedDict|TYPE_CHECKING|abstractmethod)\b|dataclass|overload|contextmanager"
)
SPECIAL = {"__init__", "__eq__", "__repr__", "__str__", "__len__"}
STATEMENTS = (
    ast.Assign, ast.AugAssign, ast.If, ast.While, ast.For, ast.Return, ast.Break, ast.Continue, ast.Pass, ast.Raise,
    ast.Try, ast.Expr, ast.FunctionDef, ast.ClassDef, ast.ImportFrom,
)
EXPRESSIONS = (
    ast.Constant, ast.List, ast.Tuple, ast.Dict, ast.Set, ast.BinOp, ast.UnaryOp, ast.BoolOp, ast.Compare, ast.IfExp,
    ast.Call, ast.Attribute, ast.Subscript, ast.Slice, ast.ListComp, ast.JoinedStr, ast.FormattedValue, ast.Lambda, ast.Name,
)
WALKED = {"zip", "enumerate", "reversed", "range", "items", "keys", "values"}
WALKERS = {"list", "tuple", "dict", "sorted", "sum", "any", "all", "enumerate", "zip", "min", "max", "join"}


def sources():
    for name in sorted(os.listdir(PACKAGE)):
        if name != "__pycache__":
            with open(os.path.join(PACKAGE, name), encoding="utf-8") as file:
                yield name, file.read()


def called(node):
    if not isinstance(node, ast.Call):
        return None
    return node.func.id if isinstance(node.func, ast.Name) else getattr(node.func, "attr", None)


class LanguageTest(unittest.TestCase):
    def each(self, *kinds):
        for name, text in sources():
            for node in ast.walk(ast.parse(text)):
                if not kinds or isinstance(node, kinds):
                    yield f"{name}:{getattr(node, 'lineno', 0)}", node

    def test_files_and_signs(self):
        names = [name for name, _ in sources()]
        self.assertIn("__init__.py", names)
        for name, text in sources():
            self.assertRegex(name, r"^(__init__|__main__|[a-z][a-z0-9_]*)\.py$")
            self.assertNotIn(name[:-3], set(dir(builtins)) | {"test", "tests", "testing", "site", "conftest"})
            self.assertRegex(text, r"^[ -~\n]*$")
            self.assertLessEqual(len(text.splitlines()), 400, name)
            self.assertLessEqual(max(map(len, text.splitlines())), 120, name)
            self.assertIsNone(FORBIDDEN_WORDS.search(text), name)

    def test_top_of_a_module(self):
        for name, text in sources():
            tree = ast.parse(text)
            self.assertIsNotNone(ast.get_docstring(tree), name)
            bound = []
            for node in tree.body[1:]:
                self.assertIsInstance(node, (ast.ImportFrom, ast.FunctionDef, ast.ClassDef, ast.Assign), name)
                if isinstance(node, ast.Assign):
                    self.assertIsInstance(node.targets[0], ast.Name, name)
                    # Plain values, and functions that stand above.
                    above = {one.name for one in tree.body if isinstance(one, ast.FunctionDef) and one.lineno < node.lineno}
                    words = [one.id for one in ast.walk(node.value) if isinstance(one, ast.Name)]
                    self.assertEqual(set(), set(words) - above, name)
                    ast.literal_eval(re.sub(rf"\b({'|'.join(words)})\b(?!['\"])", "0", ast.unparse(node.value)) if words else node.value)
                    bound.append(node.targets[0].id)
                elif isinstance(node, ast.ImportFrom):
                    bound.extend(alias.name for alias in node.names)
                else:
                    bound.append(node.name)
            self.assertEqual(len(set(bound)), len(bound), name)

    def test_imports_are_straight_and_go_one_way(self):
        drawn = {}
        for name, text in sources():
            tree = ast.parse(text)
            drawn[name[:-3]] = set()
            for node in [node for node in ast.walk(tree) if isinstance(node, (ast.Import, ast.ImportFrom))]:
                self.assertIsInstance(node, ast.ImportFrom, name)
                self.assertIn(node, tree.body)
                self.assertEqual(0, node.level)
                self.assertTrue(node.module.startswith("endwise."), name)
                source = node.module.split(".")[1]
                drawn[name[:-3]].add(source)
                defined = dict(sources())[source + ".py"]
                for alias in node.names:
                    self.assertIsNone(alias.asname)
                    self.assertRegex(defined, rf"(?m)^(def|class) {alias.name}\b|^{alias.name} = ")
        self.assertEqual(set(), drawn["__init__"])
        while drawn:
            free = [name for name in drawn if not drawn[name] & set(drawn)]
            self.assertTrue(free, drawn)
            drawn = {name: found for name, found in drawn.items() if name not in free}

    def test_functions(self):
        for where, node in self.each(ast.FunctionDef, ast.Lambda):
            shape = node.args
            self.assertFalse(shape.vararg or shape.kwarg or shape.kwonlyargs or shape.posonlyargs, where)
            self.assertFalse([one for one in shape.args if one.annotation], where)
            if isinstance(node, ast.FunctionDef):
                self.assertFalse(node.decorator_list or node.returns, where)
                self.assertLessEqual(node.end_lineno - node.lineno + 1, 40, where)

    def test_classes(self):
        methods, kept = set(), set()
        for where, node in self.each(ast.ClassDef):
            self.assertLessEqual(len(node.bases), 1, where)
            self.assertFalse(node.decorator_list or node.keywords, where)
            names = [one.name for one in node.body if isinstance(one, ast.FunctionDef)]
            self.assertEqual(len(set(names)), len(names), where)
            for one in node.body:
                self.assertIsInstance(one, (ast.FunctionDef, ast.Pass), where)
            for name in names:
                self.assertTrue(name in SPECIAL or not name.startswith("_"), where)
                self.assertTrue(name in SPECIAL | METHODS | {"add", "discard"} or name not in PYTHONS_METHODS, where)
            methods.update(names)
        for where, node in self.each(ast.Attribute):
            if isinstance(node.ctx, ast.Store):
                kept.add(node.attr)
        self.assertEqual(set(), methods & kept)

    def test_a_class_is_no_value(self):
        own = {node.name for _, node in self.each(ast.ClassDef)}
        for name, text in sources():
            above = {}
            for node in ast.walk(ast.parse(text)):
                for child in ast.iter_child_nodes(node):
                    above[child] = node
                if isinstance(node, ast.Name) and node.id in own:
                    where, over = f"{name}:{node.lineno}", above[node]
                    if isinstance(over, ast.Attribute):
                        self.assertEqual("__init__", over.attr, where)
                    elif isinstance(over, ast.Call) and node in over.args:
                        self.assertEqual("isinstance", called(over), where)
                    else:
                        self.assertIsInstance(over, (ast.Call, ast.ClassDef, ast.ExceptHandler, ast.Tuple), where)

    def test_statements_and_expressions(self):
        for where, node in self.each(ast.stmt, ast.expr):
            self.assertIsInstance(node, STATEMENTS + EXPRESSIONS, where)
            if isinstance(node, ast.Assign):
                self.assertEqual(1, len(node.targets), where)
                self.assertNotIsInstance(node.targets[0], (ast.Tuple, ast.List), where)
            if isinstance(node, (ast.For, ast.While, ast.Try)):
                self.assertFalse(getattr(node, "finalbody", []), where)
                self.assertTrue(isinstance(node, ast.Try) or not node.orelse, where)
            if isinstance(node, ast.Expr) and not where.endswith(":1"):
                self.assertIsInstance(node.value, ast.Call, where)
            if isinstance(node, ast.BinOp):
                self.assertNotIsInstance(node.op, (ast.Div, ast.MatMult), where)
            if isinstance(node, ast.ListComp):
                self.assertEqual(1, len(node.generators), where)
                self.assertLessEqual(len(node.generators[0].ifs), 1, where)
            if isinstance(node, ast.Constant):
                self.assertTrue(node.value is None or isinstance(node.value, (int, str)), where)
                self.assertFalse(isinstance(node.value, str) and "%" in node.value, where)
            if isinstance(node, ast.Compare) and [op for op in node.ops if isinstance(op, (ast.Is, ast.IsNot))]:
                beside = [side for side in [node.left] + node.comparators if isinstance(side, ast.Constant)]
                self.assertTrue([side for side in beside if side.value in (None, True, False)], where)

    def test_names(self):
        pythons = set(dir(builtins))
        for name, text in sources():
            tree = ast.parse(text)
            top = {node.name for node in tree.body if isinstance(node, (ast.FunctionDef, ast.ClassDef))}
            top |= {alias.name for node in tree.body if isinstance(node, ast.ImportFrom) for alias in node.names}
            for node in ast.walk(tree):
                where = f"{name}:{getattr(node, 'lineno', 0)}"
                if isinstance(node, (ast.Name, ast.arg)):
                    word = node.id if isinstance(node, ast.Name) else node.arg
                    self.assertRegex(word, r"^[A-Za-z][A-Za-z0-9_]*$", where)
                    self.assertNotIn(word, FORBIDDEN_NAMES, where)
                    if isinstance(node, ast.arg) or isinstance(node.ctx, ast.Store):
                        self.assertNotIn(word, top | pythons, where)
                    elif word in pythons and word not in top:
                        self.assertIn(word, OWN_NAMES, where)
                if isinstance(node, ast.Attribute):
                    self.assertNotIn(node.attr, FORBIDDEN_NAMES, where)

    def test_methods_of_pythons_own_values(self):
        own = {one.name for _, node in self.each(ast.ClassDef) for one in node.body if isinstance(one, ast.FunctionDef)}
        for where, node in self.each(ast.Call):
            if isinstance(node.func, ast.Attribute):
                self.assertIn(node.func.attr, METHODS | own, where)
            if called(node) not in {"sorted", "min", "max", "sum", "enumerate", "zip"} and called(node) in OWN_NAMES:
                self.assertEqual([], node.keywords, where)

    def test_sets_and_walks_are_used_on_the_spot(self):
        for name, text in sources():
            above = {}
            for node in ast.walk(ast.parse(text)):
                for child in ast.iter_child_nodes(node):
                    above[child] = node
                where = f"{name}:{getattr(node, 'lineno', 0)}"
                if called(node) in {"set", "frozenset"}:
                    over = above[node]
                    self.assertTrue(isinstance(over, (ast.Compare, ast.BinOp)) or called(over) in {"sorted", "len"}, where)
                if called(node) in WALKED:
                    over = above[node]
                    self.assertTrue(isinstance(over, (ast.For, ast.comprehension)) or called(over) in WALKERS, where)

    def test_errors(self):
        for where, node in self.each(ast.ExceptHandler):
            self.assertIsNotNone(node.type, where)
            words = {one.id for one in ast.walk(node.type) if isinstance(one, ast.Name)}
            self.assertEqual(set(), words & {"Exception", "TypeError", "BaseException"}, where)
        for where, node in self.each(ast.Raise):
            self.assertIsInstance(node.exc, ast.Call, where)


if __name__ == "__main__":
    unittest.main()
