"""Holds the package to the rules of its small language that a walk over its files can see."""

import ast
import builtins
import pathlib
import re
import unittest

PACKAGE = pathlib.Path(__file__).resolve().parent.parent / "planeyard"

STATEMENTS = (
    ast.Assign, ast.AugAssign, ast.If, ast.While, ast.For, ast.Return, ast.Break, ast.Continue, ast.Pass,
    ast.Raise, ast.Try, ast.ExceptHandler, ast.Expr, ast.FunctionDef, ast.ClassDef, ast.ImportFrom)
EXPRESSIONS = (
    ast.Constant, ast.Name, ast.List, ast.Tuple, ast.Dict, ast.Set, ast.BinOp, ast.UnaryOp, ast.BoolOp,
    ast.Compare, ast.IfExp, ast.Call, ast.Attribute, ast.Subscript, ast.Slice, ast.ListComp, ast.JoinedStr,
    ast.FormattedValue, ast.Lambda)
OTHERS = (
    ast.Module, ast.arguments, ast.arg, ast.keyword, ast.alias, ast.comprehension, ast.expr_context, ast.boolop,
    ast.operator, ast.unaryop, ast.cmpop)
OWN_NAMES = set(
    "len range enumerate zip min max sum abs sorted reversed int str bool list tuple dict set frozenset isinstance "
    "ord repr any all divmod Exception ValueError TypeError KeyError IndexError LookupError ZeroDivisionError "
    "ArithmeticError OverflowError RuntimeError NotImplementedError AttributeError StopIteration".split())
METHODS = set(
    "append clear copy count endswith extend find get index insert isalnum isalpha isdigit islower isspace isupper "
    "items join keys ljust lower lstrip partition pop remove replace reverse rfind rjust rpartition rsplit rstrip "
    "setdefault split splitlines startswith strip update upper values zfill bit_length".split())
WORDS = re.compile(
    r"\b(type|typing|typing_extensions|enum|Enum|IntEnum|StrEnum|Flag|IntFlag|Generic|Protocol|ABC|ABCMeta|"
    r"namedtuple|NamedTuple|TypedDict|TYPE_CHECKING|abstractmethod)\b|dataclass|overload|contextmanager")
WALKED_AT_ONCE = {"zip", "enumerate", "reversed", "range"}
VIEWS = {"items", "keys", "values"}
WALKERS = {"list", "tuple", "dict", "sorted", "sum", "any", "all", "enumerate", "zip"}
CHANGES = {"append", "clear", "extend", "insert", "pop", "remove", "reverse", "setdefault", "update"}
KEYWORDS = {"sorted": {"key", "reverse"}, "min": {"key", "default"}, "max": {"key", "default"}, "sum": {"start"},
            "enumerate": {"start"}, "zip": {"strict"}}
FILES_NOT_CALLED = set(dir(builtins)) | {"test", "tests", "testing", "site", "conftest", "typing", "enum"}


def sources():
    return sorted(path for path in PACKAGE.iterdir() if path.name != "__pycache__")


def trees():
    return [(path.name, ast.parse(path.read_text("utf-8"))) for path in sources()]


def nodes():
    return [(name, node) for name, tree in trees() for node in ast.walk(tree)]


def bound_names(tree):
    bound = set()
    for node in ast.walk(tree):
        if isinstance(node, (ast.FunctionDef, ast.ClassDef)):
            bound.add(node.name)
        elif isinstance(node, ast.arg):
            bound.add(node.arg)
        elif isinstance(node, ast.alias):
            bound.add(node.asname or node.name)
        elif isinstance(node, ast.Name) and isinstance(node.ctx, ast.Store):
            bound.add(node.id)
        elif isinstance(node, ast.ExceptHandler) and node.name:
            bound.add(node.name)
    return bound


def with_parents():
    return [(name, parent, node) for name, parent in nodes() for node in ast.iter_child_nodes(parent)]


def called_name(node):
    return node.func.id if isinstance(node, ast.Call) and isinstance(node.func, ast.Name) else None


def called_method(node):
    return node.func.attr if isinstance(node, ast.Call) and isinstance(node.func, ast.Attribute) else None


def names_walked(walked):
    """What a loop walks, itself or through enumerate, zip, reversed or items."""
    if called_name(walked) in WALKED_AT_ONCE - {"range"}:
        return {name for each in walked.args for name in names_walked(each)}
    if called_method(walked) in VIEWS:
        return names_walked(walked.func.value)
    return {ast.unparse(walked)}


def names_changed(loop):
    changed = set()
    for statement in loop.body:
        for node in ast.walk(statement):
            if called_method(node) in CHANGES:
                changed.add(ast.unparse(node.func.value))
            elif isinstance(node, ast.Subscript) and isinstance(node.ctx, ast.Store):
                changed.add(ast.unparse(node.value))
    return changed


def top_names(tree):
    tops = []
    for node in tree.body:
        if isinstance(node, (ast.FunctionDef, ast.ClassDef)):
            tops.append(node.name)
        elif isinstance(node, ast.Assign):
            tops.append(node.targets[0].id)
    return tops


def imported_names(tree):
    return [alias.name for node in tree.body if isinstance(node, ast.ImportFrom) for alias in node.names]


class Language(unittest.TestCase):
    def test_files(self):
        names = [path.name for path in sources()]
        self.assertIn("__init__.py", names)
        for path in sources():
            self.assertRegex(path.name, r"\A([a-z][a-z0-9_]*|__init__|__main__)\.py\Z")
            self.assertFalse(path.stem in FILES_NOT_CALLED or path.stem.startswith("test_"), path.name)

    def test_signs_words_and_sizes(self):
        for path in sources():
            text = path.read_bytes().decode("ascii")
            self.assertTrue(all(" " <= sign <= "~" or sign == "\n" for sign in text), path.name)
            self.assertIsNone(WORDS.search(text), path.name)
            self.assertLessEqual(len(text.splitlines()), 400, path.name)
            self.assertLessEqual(max(map(len, text.splitlines())), 120, path.name)

    def test_functions(self):
        for name, node in nodes():
            if isinstance(node, ast.FunctionDef):
                where = f"{name}: {node.name}"
                self.assertLessEqual(node.end_lineno - node.lineno + 1, 40, where)
                self.assertEqual(node.decorator_list, [], where)
                self.assertFalse(node.args.vararg or node.args.kwarg or node.args.kwonlyargs, where)

    def test_forms(self):
        for name, node in nodes():
            where = f"{name}: {type(node).__name__} in line {getattr(node, 'lineno', 0)}"
            self.assertIsInstance(node, STATEMENTS + EXPRESSIONS + OTHERS, where)
            self.assertNotIsInstance(node, (ast.Div, ast.MatMult), where)
            if isinstance(node, ast.Constant):
                self.assertIsInstance(node.value, (int, str, type(None)), where)
            if isinstance(node, ast.Assign):
                self.assertEqual(len(node.targets), 1, where)
            if isinstance(node, (ast.For, ast.While)):
                self.assertEqual(node.orelse, [], where)
            if isinstance(node, ast.Try):
                self.assertEqual(node.finalbody, [], where)
            if isinstance(node, ast.ListComp):
                self.assertEqual(len(node.generators), 1, where)
                self.assertLessEqual(len(node.generators[0].ifs), 1, where)
            if isinstance(node, ast.FormattedValue):
                self.assertIsInstance(node.value, ast.Name, where)
                self.assertIsNone(node.format_spec, where)

    def test_is_stands_beside_none_true_and_false(self):
        for name, node in nodes():
            if isinstance(node, ast.Compare) and any(isinstance(op, (ast.Is, ast.IsNot)) for op in node.ops):
                self.assertIsInstance(node.comparators[-1], ast.Constant, f"{name}: {node.lineno}")

    def test_names(self):
        for name, tree in trees():
            bound = bound_names(tree)
            self.assertEqual(bound & set(dir(builtins)), set(), name)
            for each in bound:
                self.assertRegex(each, r"\A([A-Za-z][A-Za-z0-9_]*|__(init|eq|repr|str|len|all|version)__)\Z", name)
            for node in ast.walk(tree):
                if isinstance(node, ast.Name):
                    self.assertIn(node.id, bound | OWN_NAMES, f"{name}: {node.lineno}")

    def test_names_at_the_top_are_bound_once(self):
        for name, tree in trees():
            tops = top_names(tree) + imported_names(tree)
            self.assertEqual(len(set(tops)), len(tops), name)

    def test_no_local_is_called_like_an_import(self):
        for name, tree in trees():
            for node in tree.body:
                if not isinstance(node, ast.ImportFrom):
                    self.assertEqual(bound_names(node) & set(imported_names(tree)), set(), name)

    def test_names_are_drawn_from_the_file_that_defines_them_and_are_used(self):
        defined = {name: top_names(tree) for name, tree in trees()}
        for name, tree in trees():
            used = {node.id for node in ast.walk(tree) if isinstance(node, ast.Name)}
            self.assertLessEqual(set(imported_names(tree)), used, name)
            for node in tree.body:
                if isinstance(node, ast.ImportFrom):
                    source = defined[node.module.partition(".")[2] + ".py"]
                    self.assertLessEqual({alias.name for alias in node.names}, set(source), name)

    def test_only_calls_stand_by_themselves(self):
        for name, tree in trees():
            self.assertIsNotNone(ast.get_docstring(tree), name)
            for node in ast.walk(tree):
                if isinstance(node, ast.Expr) and node != tree.body[0]:
                    self.assertIsInstance(node.value, ast.Call, f"{name}: {node.lineno}")

    def test_no_annotations(self):
        for name, node in nodes():
            if isinstance(node, ast.arg):
                self.assertIsNone(node.annotation, f"{name}: {node.lineno}")
            if isinstance(node, ast.FunctionDef):
                self.assertIsNone(node.returns, f"{name}: {node.lineno}")

    def test_walked_at_once(self):
        for name, parent, node in with_parents():
            if called_name(node) in WALKED_AT_ONCE or called_method(node) in VIEWS:
                loop = isinstance(parent, (ast.For, ast.comprehension)) and parent.iter == node
                taken = called_name(parent) in WALKERS and parent.args[0] == node
                alone = called_name(parent) in ("min", "max") and parent.args == [node]
                joined = called_method(parent) == "join" and isinstance(parent.func.value, ast.Constant)
                self.assertTrue(loop or taken or alone or joined, f"{name}: {node.lineno}")

    def test_what_a_loop_walks_is_not_changed_in_it(self):
        for name, node in nodes():
            if isinstance(node, ast.For):
                self.assertEqual(names_walked(node.iter) & names_changed(node), set(), f"{name}: {node.lineno}")

    def test_sets_are_not_kept(self):
        for name, parent, node in with_parents():
            if called_name(node) in ("set", "frozenset") or isinstance(node, ast.Set):
                fine = isinstance(parent, (ast.Compare, ast.BinOp)) or called_name(parent) in ("sorted", "len")
                self.assertTrue(fine, f"{name}: {node.lineno}")

    def test_keywords(self):
        own = {each for name, tree in trees() for each in top_names(tree)}
        for name, node in nodes():
            if isinstance(node, ast.Call) and called_name(node) not in own:
                given = {keyword.arg for keyword in node.keywords}
                self.assertLessEqual(given, KEYWORDS.get(called_name(node), set()), f"{name}: {node.lineno}")

    def test_texts(self):
        for name, node in nodes():
            if isinstance(node, ast.Constant) and isinstance(node.value, str):
                self.assertNotIn("%", node.value, f"{name}: {node.lineno}")

    def test_methods(self):
        own = {each for name, tree in trees() for node in ast.walk(tree) if isinstance(node, ast.ClassDef)
               for each in bound_names(node)}
        for name, node in nodes():
            if isinstance(node, ast.Attribute):
                self.assertIn(node.attr, METHODS | own, f"{name}: {node.lineno}")

    def test_imports(self):
        drawn = {}
        for name, tree in trees():
            rows = [node for node in ast.walk(tree) if isinstance(node, ast.ImportFrom)]
            for row in rows:
                self.assertIn(row, tree.body, name)
                self.assertEqual(row.level, 0, name)
                self.assertRegex(row.module, r"\Aplaneyard\.[a-z][a-z0-9_]*\Z", name)
                self.assertNotIn("*", [alias.name for alias in row.names], name)
            drawn[name] = {row.module.partition(".")[2] + ".py" for row in rows}
        # What draws from nothing that is left is taken away; a circle would stay.
        while drawn:
            free = [name for name in drawn if not drawn[name] & set(drawn)]
            self.assertNotEqual(free, [], sorted(drawn))
            for name in free:
                drawn.pop(name)


if __name__ == "__main__":
    unittest.main()
