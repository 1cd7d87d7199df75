"""The form of the package's own files: what can be seen of ../shared/LANGUAGE.md without running them."""

import ast
import builtins
import pathlib
import re
import unittest

PACKAGE = pathlib.Path(__file__).resolve().parent.parent / "keepsakes"

OWN_NAMES = set(
    "len range enumerate zip min max sum abs sorted reversed int str bool list tuple dict set frozenset isinstance"
    " ord repr any all divmod Exception ValueError TypeError KeyError IndexError LookupError ZeroDivisionError"
    " ArithmeticError OverflowError RuntimeError NotImplementedError AttributeError StopIteration".split())

OWN_METHODS = set(
    "append clear copy count endswith extend find get index insert isalnum isalpha isdigit islower isspace isupper"
    " items join keys ljust lower lstrip partition pop remove replace reverse rfind rjust rpartition rsplit rstrip"
    " setdefault split splitlines startswith strip update upper values zfill bit_length".split())

TWO_UNDERSCORES = {"__init__", "__eq__", "__repr__", "__str__", "__len__"}

NO_WORDS = re.compile(
    r"\b(type|typing|typing_extensions|enum|Enum|IntEnum|StrEnum|Flag|IntFlag|Generic|Protocol|ABC|ABCMeta|namedtuple"
    r"|NamedTuple|TypedDict|TYPE_CHECKING|abstractmethod)\b|dataclass|overload|contextmanager")

NO_NAMES = set(
    "register mro elements open input version_info with_traceback add_note attrgetter breakpoint builtins compile"
    " copyright credits delattr dir eval exec exit gc getattr globals hasattr help id importlib license locals"
    " methodcaller os quit setattr super type vars sys chr format format_map print".split())

NO_VALUES = set(
    "items keys values pop update append clear extend insert remove reverse setdefault sort args encode format".split())

FREE_METHODS = OWN_METHODS | {"add", "discard"}

FREE_VALUES = set("count index title find get join lower upper split strip copy add".split())

PYTHONS_OWN = {name for kind in (str, int, list, tuple, dict, set, bytes, bool) for name in dir(kind)}

KEYWORDS = {"sorted": {"key", "reverse"}, "min": {"key", "default"}, "max": {"key", "default"}, "sum": {"start"},
            "enumerate": {"start"}, "zip": {"strict"}}

WALKED = {"zip", "enumerate", "reversed", "range"}

WALKERS = {"list", "tuple", "dict", "sorted", "sum", "any", "all", "enumerate", "zip", "min", "max"}

CHANGING = {"append", "clear", "extend", "insert", "pop", "remove", "reverse", "setdefault", "update"}

NO_FILES = {"test", "tests", "testing", "site", "conftest", "sitecustomize", "usercustomize"}

NODES = (
    ast.Module, ast.ImportFrom, ast.alias, ast.FunctionDef, ast.arguments, ast.arg, ast.ClassDef, ast.Lambda,
    ast.Assign, ast.AugAssign, ast.If, ast.While, ast.For, ast.Return, ast.Break, ast.Continue, ast.Pass, ast.Raise,
    ast.Try, ast.ExceptHandler, ast.Expr, ast.Constant, ast.List, ast.Tuple, ast.Dict, ast.Set, ast.BinOp, ast.UnaryOp,
    ast.BoolOp, ast.Compare, ast.IfExp, ast.Call, ast.keyword, ast.Attribute, ast.Subscript, ast.Slice, ast.Name,
    ast.ListComp, ast.comprehension, ast.JoinedStr, ast.FormattedValue, ast.expr_context, ast.boolop, ast.operator,
    ast.unaryop, ast.cmpop)

FILES = sorted(PACKAGE.rglob("*.py"))
TREES = {path: ast.parse(path.read_text(encoding="utf-8")) for path in FILES}


def nodes_of(*kinds):
    return [(path, node) for path, tree in TREES.items() for node in ast.walk(tree) if isinstance(node, kinds)]


def bound_at_top(tree):
    bound = []
    for node in tree.body:
        if isinstance(node, (ast.FunctionDef, ast.ClassDef)):
            bound.append(node.name)
        if isinstance(node, ast.Assign):
            bound.extend(target.id for target in node.targets)
        if isinstance(node, ast.ImportFrom):
            bound.extend(alias.asname or alias.name for alias in node.names)
    return bound


def is_plain(node):
    if isinstance(node, (ast.List, ast.Tuple)):
        return all(is_plain(part) for part in node.elts)
    if isinstance(node, ast.Dict):
        return all(is_plain(part) for part in node.keys + node.values)
    if isinstance(node, ast.UnaryOp):
        return isinstance(node.op, ast.USub) and is_plain(node.operand)
    return isinstance(node, (ast.Constant, ast.Name))


def called(node):
    """The name of what is called, where it is a name or a method."""
    if not isinstance(node, ast.Call):
        return None
    return node.func.id if isinstance(node.func, ast.Name) else getattr(node.func, "attr", None)


def is_walker(node):
    if called(node) in WALKED and isinstance(node.func, ast.Name):
        return True
    return called(node) in ("items", "keys", "values") and isinstance(node.func, ast.Attribute)


class Form(unittest.TestCase):
    def at(self, path, node):
        return f"{path.name}:{getattr(node, 'lineno', '?')}"

    def test_files(self):
        self.assertIn(PACKAGE / "__init__.py", FILES)
        for path in PACKAGE.rglob("*"):
            if "__pycache__" in path.parts:
                continue
            self.assertEqual(path.suffix, ".py", path)
            name = path.stem
            if name in ("__init__", "__main__"):
                continue
            self.assertTrue(re.fullmatch(r"[a-z][a-z0-9_]*", name), path)
            self.assertFalse(name in NO_FILES or name.startswith("test_") or hasattr(builtins, name), path)

    def test_signs_and_sizes(self):
        for path in FILES:
            text = path.read_text(encoding="utf-8")
            self.assertTrue(all(sign == "\n" or " " <= sign <= "~" for sign in text), path)
            self.assertIsNone(NO_WORDS.search(text), path)
            self.assertLessEqual(len(text.splitlines()), 400, path)
            self.assertTrue(all(len(line) <= 120 for line in text.splitlines()), path)
        for path, node in nodes_of(ast.FunctionDef):
            self.assertLessEqual(node.end_lineno - node.lineno + 1, 40, self.at(path, node))

    def test_only_listed_nodes(self):
        for path, node in nodes_of(ast.AST):
            self.assertIsInstance(node, NODES, self.at(path, node))
        for path, node in nodes_of(ast.operator):
            self.assertNotIsInstance(node, (ast.Div, ast.MatMult), path)

    def test_top_of_a_module(self):
        for path, tree in TREES.items():
            self.assertTrue(ast.get_docstring(tree), path)
            bound = bound_at_top(tree)
            self.assertEqual(len(bound), len(set(bound)), path)
            for node in tree.body[1:]:
                if isinstance(node, ast.Assign):
                    self.assertTrue(is_plain(node.value), self.at(path, node))
                else:
                    self.assertIsInstance(node, (ast.ImportFrom, ast.FunctionDef, ast.ClassDef), self.at(path, node))

    def test_imports(self):
        drawn = {}
        for path, node in nodes_of(ast.ImportFrom):
            self.assertTrue(node.level == 0 and node.module.startswith("keepsakes."), self.at(path, node))
            source = PACKAGE / (node.module.split(".")[1] + ".py")
            drawn.setdefault(path, set()).add(source)
            for alias in node.names:
                self.assertIn(alias.name, bound_at_top(TREES[source]), self.at(path, node))
        self.assertNotIn(PACKAGE / "__init__.py", drawn)
        while drawn:
            ready = [path for path in drawn if not drawn[path] & set(drawn)]
            self.assertTrue(ready, "files draw from one another")
            drawn = {path: drawn[path] for path in drawn if path not in ready}

    def test_functions(self):
        for path, node in nodes_of(ast.FunctionDef):
            told = node.args
            self.assertFalse(node.decorator_list or told.vararg or told.kwarg or told.kwonlyargs or told.posonlyargs,
                             self.at(path, node))
            self.assertFalse(node.name.startswith("_") and node.name not in TWO_UNDERSCORES, self.at(path, node))

    def test_classes(self):
        methods, values = set(), set()
        for path, node in nodes_of(ast.ClassDef):
            self.assertFalse(node.decorator_list or node.keywords or len(node.bases) > 1, self.at(path, node))
            for part in node.body:
                self.assertIsInstance(part, (ast.FunctionDef, ast.Pass), self.at(path, part))
            named = [part.name for part in node.body if isinstance(part, ast.FunctionDef)]
            self.assertEqual(len(named), len(set(named)), self.at(path, node))
            methods.update(named)
        for path, node in nodes_of(ast.Attribute):
            if isinstance(node.ctx, ast.Store):
                values.add(node.attr)
        self.assertEqual(methods & values, set())

    def test_names(self):
        for path, node in nodes_of(ast.Name, ast.arg):
            name = node.id if isinstance(node, ast.Name) else node.arg
            self.assertFalse(name.startswith("_") or name in NO_NAMES, self.at(path, node))
            if hasattr(builtins, name):
                self.assertIn(name, OWN_NAMES, self.at(path, node))
                self.assertFalse(isinstance(node, ast.arg) or isinstance(node.ctx, ast.Store), self.at(path, node))

    def test_methods_of_pythons_own_values(self):
        own = {node.name for path, node in nodes_of(ast.FunctionDef)}
        for path, node in nodes_of(ast.Call):
            if isinstance(node.func, ast.Attribute):
                self.assertIn(node.func.attr, own | OWN_METHODS, self.at(path, node))

    def test_names_of_methods_and_values(self):
        for path, node in nodes_of(ast.ClassDef):
            for part in node.body:
                if isinstance(part, ast.FunctionDef) and part.name not in TWO_UNDERSCORES:
                    self.assertFalse(part.name in PYTHONS_OWN - FREE_METHODS, self.at(path, part))
        for path, node in nodes_of(ast.Attribute):
            self.assertFalse(node.attr.startswith("_") and node.attr not in TWO_UNDERSCORES, self.at(path, node))
            if isinstance(node.ctx, ast.Store):
                self.assertFalse(node.attr in NO_VALUES | (PYTHONS_OWN - FREE_VALUES), self.at(path, node))

    def test_no_local_is_called_like_a_class_or_an_import(self):
        for path, tree in TREES.items():
            taken = {node.name for node in tree.body if isinstance(node, ast.ClassDef)}
            for node in tree.body:
                if isinstance(node, ast.ImportFrom):
                    taken.update(alias.asname or alias.name for alias in node.names)
            for node in ast.walk(tree):
                if isinstance(node, ast.arg):
                    self.assertNotIn(node.arg, taken, self.at(path, node))
                if isinstance(node, ast.Name) and isinstance(node.ctx, ast.Store):
                    self.assertNotIn(node.id, taken, self.at(path, node))

    def test_keywords(self):
        own = {node.name for path, node in nodes_of(ast.FunctionDef, ast.ClassDef)}
        for path, node in nodes_of(ast.Call):
            told = {keyword.arg for keyword in node.keywords}
            if called(node) not in own or called(node) in OWN_METHODS:
                self.assertLessEqual(told, KEYWORDS.get(called(node), set()), self.at(path, node))

    def test_walked_at_once(self):
        walked = set()
        for path, node in nodes_of(ast.For, ast.comprehension):
            walked.add(id(node.iter))
        for path, node in nodes_of(ast.Call):
            if called(node) in WALKERS and isinstance(node.func, ast.Name):
                walked.update(map(id, node.args))
            if called(node) == "join":
                walked.update(map(id, node.args))
        for path, node in nodes_of(ast.Call):
            if is_walker(node):
                self.assertIn(id(node), walked, self.at(path, node))

    def test_what_a_loop_walks_is_not_changed_in_it(self):
        for path, loop in nodes_of(ast.For):
            names = {ast.dump(node, include_attributes=False).replace("Store", "Load")
                     for node in ast.walk(loop.iter) if isinstance(node, (ast.Name, ast.Attribute))}
            for node in [node for part in loop.body for node in ast.walk(part)]:
                changed = None
                if isinstance(node, ast.Call) and isinstance(node.func, ast.Attribute) and node.func.attr in CHANGING:
                    changed = node.func.value
                if isinstance(node, ast.Subscript) and isinstance(node.ctx, ast.Store):
                    changed = node.value
                if changed is not None:
                    self.assertNotIn(ast.dump(changed, include_attributes=False), names, self.at(path, node))

    def test_no_else_behind_a_loop_and_one_target(self):
        for path, node in nodes_of(ast.For, ast.While):
            self.assertFalse(node.orelse, self.at(path, node))
        for path, node in nodes_of(ast.Assign):
            self.assertEqual(len(node.targets), 1, self.at(path, node))
        for path, node in nodes_of(ast.ListComp):
            self.assertTrue(len(node.generators) == 1 and len(node.generators[0].ifs) <= 1, self.at(path, node))
        for path, node in nodes_of(ast.Try):
            self.assertFalse(node.finalbody, self.at(path, node))

    def test_is_beside_none_true_and_false(self):
        for path, node in nodes_of(ast.Compare):
            if any(isinstance(op, (ast.Is, ast.IsNot)) for op in node.ops):
                right = node.comparators[-1]
                self.assertTrue(isinstance(right, ast.Constant) and right.value in (None, True, False),
                                self.at(path, node))

    def test_numbers_and_texts(self):
        for path, node in nodes_of(ast.BinOp):
            if isinstance(node.op, ast.Pow):
                self.assertTrue(isinstance(node.right, ast.Constant) and 0 <= node.right.value <= 64,
                                self.at(path, node))
        for path, node in nodes_of(ast.Constant):
            self.assertNotIsInstance(node.value, (float, complex, bytes), self.at(path, node))
            self.assertFalse(isinstance(node.value, str) and chr(37) in node.value, self.at(path, node))
        for path, node in nodes_of(ast.FormattedValue):
            self.assertTrue(isinstance(node.value, ast.Name) and node.format_spec is None, self.at(path, node))

    def test_sets_are_not_kept(self):
        straight = set()
        for path, node in nodes_of(ast.Call, ast.Compare):
            if isinstance(node, ast.Compare):
                straight.update(map(id, ast.walk(node)))
            elif isinstance(node.func, ast.Name) and node.func.id in ("sorted", "len"):
                straight.update(map(id, ast.walk(node)))
        for path, node in nodes_of(ast.Call):
            if isinstance(node.func, ast.Name) and node.func.id == "set":
                self.assertIn(id(node), straight, self.at(path, node))


if __name__ == "__main__":
    unittest.main()
