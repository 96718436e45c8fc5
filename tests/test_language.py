"""The form of the package's own files: the rules that can be seen in a file's tree."""

import ast
import builtins
import pathlib
import re
import unittest

PACKAGE = pathlib.Path(__file__).resolve().parent.parent / "freshsheet"
OWN_NAMES = set("""len range enumerate zip min max sum abs sorted reversed int str bool list tuple dict set frozenset
    isinstance ord repr any all divmod Exception ValueError TypeError KeyError IndexError LookupError
    ZeroDivisionError ArithmeticError OverflowError RuntimeError NotImplementedError AttributeError
    StopIteration""".split())
OWN_METHODS = set("""append clear copy count endswith extend find get index insert isalnum isalpha isdigit islower
    isspace isupper items join keys ljust lower lstrip partition pop remove replace reverse rfind rjust rpartition
    rsplit rstrip setdefault split splitlines startswith strip update upper values zfill bit_length""".split())
DUNDERS = {"__init__", "__eq__", "__repr__", "__str__", "__len__"}
STATEMENTS = (ast.FunctionDef, ast.ClassDef, ast.Assign, ast.AugAssign, ast.If, ast.While, ast.For, ast.Return,
              ast.Break, ast.Continue, ast.Pass, ast.Raise, ast.Try, ast.Expr, ast.ImportFrom)
EXPRESSIONS = (ast.Constant, ast.Name, ast.List, ast.Tuple, ast.Dict, ast.Set, ast.BinOp, ast.UnaryOp, ast.Compare,
               ast.BoolOp, ast.IfExp, ast.Call, ast.Attribute, ast.Subscript, ast.Slice, ast.ListComp, ast.JoinedStr,
               ast.FormattedValue, ast.Lambda)
TOP_STATEMENTS = (ast.Expr, ast.ImportFrom, ast.FunctionDef, ast.ClassDef, ast.Assign)
UNUSED_NAMES = set("""register mro elements open input version_info with_traceback add_note format format_map
    attrgetter breakpoint builtins compile copyright credits delattr dir eval exec exit gc getattr globals hasattr help
    id importlib license locals methodcaller os quit setattr super type vars sys chr""".split())
UNUSED_WORDS = re.compile(r"\b(type|typing|typing_extensions|enum|Enum|IntEnum|StrEnum|Flag|IntFlag|Generic|Protocol"
                          r"|ABC|ABCMeta|namedtuple|NamedTuple|TypedDict|TYPE_CHECKING|abstractmethod)\b"
                          r"|dataclass|overload|contextmanager")
WALKED = {"zip", "enumerate", "reversed", "range"}
WALKED_METHODS = {"items", "keys", "values"}
WALKERS = {"list", "tuple", "dict", "sorted", "sum", "any", "all", "enumerate", "zip"}
COPIERS = {"len", "list", "dict", "tuple", "sorted", "sum", "min", "max", "any", "all", "enumerate", "zip", "reversed"}
FREE_VALUES = {"count", "index", "title", "find", "get", "join", "lower", "upper", "split", "strip", "copy", "add"}
PLAIN_NAME = re.compile(r"[A-Za-z][A-Za-z0-9_]*\Z")


def sources():
    """Pairs of a file's name and its text."""
    return [(path.name, path.read_bytes().decode("ascii")) for path in sorted(PACKAGE.glob("*.py"))]


def trees():
    return [(name, ast.parse(text)) for name, text in sources()]


def nodes():
    """Triples of a file's name, a node and its line."""
    return [(name, node, getattr(node, "lineno", 0)) for name, tree in trees() for node in ast.walk(tree)]


def bound_names(node):
    """The names that a node binds."""
    if isinstance(node, (ast.FunctionDef, ast.ClassDef)):
        return [node.name]
    if isinstance(node, ast.arg):
        return [node.arg]
    if isinstance(node, ast.Name) and isinstance(node.ctx, ast.Store):
        return [node.id]
    if isinstance(node, ast.Attribute) and isinstance(node.ctx, ast.Store):
        return [node.attr]
    return []


def top_names(tree):
    """The names that a file's own top defines, imports aside."""
    names = []
    for row in tree.body:
        if isinstance(row, (ast.FunctionDef, ast.ClassDef)):
            names.append(row.name)
        if isinstance(row, ast.Assign):
            names.append(row.targets[0].id)
    return names


def top_holders(tree):
    """The names of a file's own top that hold a list or a dict."""
    return [row.targets[0].id for row in tree.body
            if isinstance(row, ast.Assign) and isinstance(row.value, (ast.List, ast.Dict))]


def reading_places(tree):
    """The nodes that stand where a list or dict of a file's top may: read, or copied."""
    places = []
    for node in ast.walk(tree):
        if isinstance(node, ast.Subscript) and isinstance(node.ctx, ast.Load):
            places.append(node.value)
        if isinstance(node, ast.Compare):
            places.extend(node.comparators)
        if isinstance(node, (ast.For, ast.comprehension)):
            places.append(node.iter)
        if isinstance(node, ast.Attribute) and node.attr in ("get", "items", "keys", "values", "index", "count"):
            places.append(node.value)
        if isinstance(node, ast.Call) and isinstance(node.func, ast.Name) and node.func.id in COPIERS:
            places.extend(node.args)
    return places


def walking_places(tree):
    """The nodes that stand where what is walked at once may."""
    places = []
    for node in ast.walk(tree):
        if isinstance(node, (ast.For, ast.comprehension)):
            places.append(node.iter)
        if isinstance(node, ast.Call) and isinstance(node.func, ast.Name):
            if node.func.id in WALKERS or (node.func.id in ("min", "max") and len(node.args) == 1):
                places.extend(node.args[:1])
        if isinstance(node, ast.Call) and isinstance(node.func, ast.Attribute) and node.func.attr == "join":
            places.extend(node.args)
    return places


def is_walked_at_once(node):
    if not isinstance(node, ast.Call):
        return False
    if isinstance(node.func, ast.Name):
        return node.func.id in WALKED
    return isinstance(node.func, ast.Attribute) and node.func.attr in WALKED_METHODS


def set_places(tree):
    """The nodes that stand where a set may: beside a comparison, or straight within sorted or len."""
    places = []
    for node in ast.walk(tree):
        if isinstance(node, ast.Compare) and isinstance(node.ops[0], (ast.In, ast.NotIn, ast.Eq, ast.NotEq)):
            places.extend([node.left] + node.comparators)
        if isinstance(node, ast.Call) and isinstance(node.func, ast.Name) and node.func.id in ("sorted", "len"):
            if not node.keywords:
                places.extend(node.args)
    for place in places:
        if isinstance(place, ast.BinOp) and isinstance(place.op, (ast.Sub, ast.BitAnd, ast.BitOr, ast.BitXor)):
            places.extend([place.left, place.right])
    return places


class LanguageTest(unittest.TestCase):
    def assert_each(self, is_right, nodes_told):
        for name, node, line in nodes_told:
            self.assertTrue(is_right(node), f"{name}, line {line}: {ast.dump(node)[:200]}")

    def of_kind(self, *kinds):
        return [told for told in nodes() if isinstance(told[1], kinds)]

    def test_files(self):
        for path in PACKAGE.iterdir():
            if path.name != "__pycache__":
                self.assertRegex(path.name, r"\A([a-z][a-z0-9_]*|__init__|__main__)\.py\Z")
                self.assertNotRegex(path.name, r"\A(test|site|conftest|sitecustomize|usercustomize)")

    def test_signs_and_sizes(self):
        for name, text in sources():
            self.assertRegex(text, r"\A[ -~\n]*\Z", name)
            self.assertLessEqual(len(text.splitlines()), 400, name)
            self.assertLessEqual(max(len(line) for line in text.splitlines()), 120, name)
        self.assert_each(lambda node: node.end_lineno - node.lineno < 40, self.of_kind(ast.FunctionDef))

    def test_words_that_are_not_used(self):
        for name, text in sources():
            self.assertNotRegex(text, UNUSED_WORDS, name)

    def test_statements(self):
        self.assert_each(lambda node: isinstance(node, STATEMENTS), self.of_kind(ast.stmt))
        self.assert_each(lambda node: len(node.targets) == 1, self.of_kind(ast.Assign))
        self.assert_each(lambda node: not node.orelse, self.of_kind(ast.For, ast.While))
        self.assert_each(lambda node: not node.finalbody, self.of_kind(ast.Try))
        self.assert_each(lambda node: node.type is not None, self.of_kind(ast.ExceptHandler))
        self.assert_each(lambda node: isinstance(node.value, ast.Call) or isinstance(node.value, ast.Constant),
                         self.of_kind(ast.Expr))

    def test_expressions(self):
        self.assert_each(lambda node: isinstance(node, EXPRESSIONS), self.of_kind(ast.expr))
        self.assert_each(lambda node: not isinstance(node.op, (ast.Div, ast.MatMult)),
                         self.of_kind(ast.BinOp, ast.AugAssign))
        self.assert_each(lambda node: node.value is None or isinstance(node.value, (int, str)),
                         self.of_kind(ast.Constant))
        self.assert_each(lambda node: len(node.generators) == 1 and len(node.generators[0].ifs) <= 1,
                         self.of_kind(ast.ListComp))
        self.assert_each(lambda node: isinstance(node.value, ast.Name), self.of_kind(ast.FormattedValue))
        powers = [told for told in self.of_kind(ast.BinOp) if isinstance(told[1].op, ast.Pow)]
        self.assert_each(lambda node: isinstance(node.right, ast.Constant) and 0 <= node.right.value <= 64, powers)
        texts = [told for told in self.of_kind(ast.Constant) if isinstance(told[1].value, str)]
        self.assert_each(lambda node: "%" not in node.value, texts)

    def test_is_stands_beside_none_and_truths(self):
        tests = [told for told in self.of_kind(ast.Compare)
                 if any(isinstance(op, (ast.Is, ast.IsNot)) for op in told[1].ops)]
        self.assert_each(lambda node: isinstance(node.comparators[0], ast.Constant)
                         and node.comparators[0].value in (None, True, False), tests)

    def test_functions_and_classes(self):
        self.assert_each(lambda node: not node.decorator_list, self.of_kind(ast.FunctionDef, ast.ClassDef))
        self.assert_each(lambda node: not (node.vararg or node.kwarg or node.kwonlyargs or node.posonlyargs),
                         self.of_kind(ast.arguments))
        self.assert_each(lambda node: len(node.bases) <= 1 and not node.keywords, self.of_kind(ast.ClassDef))
        for name, node, line in self.of_kind(ast.ClassDef):
            self.assert_each(lambda row: isinstance(row, ast.FunctionDef) or isinstance(row, ast.Expr),
                             [(name, row, row.lineno) for row in node.body])

    def test_names(self):
        for name, node, line in nodes():
            for bound in bound_names(node):
                self.assertTrue(bound in DUNDERS or PLAIN_NAME.match(bound), f"{name}, line {line}: {bound}")
                self.assertNotIn(bound, UNUSED_NAMES, f"{name}, line {line}")
                if not isinstance(node, ast.Attribute):
                    self.assertFalse(bound in vars(builtins), f"{name}, line {line}: {bound}")

    def test_names_of_pythons_own(self):
        for name, node, line in self.of_kind(ast.Name):
            if node.id in vars(builtins):
                self.assertIn(node.id, OWN_NAMES, f"{name}, line {line}")

    def test_methods(self):
        own = {node.name for name, node, line in self.of_kind(ast.FunctionDef)}
        calls = [told for told in self.of_kind(ast.Call) if isinstance(told[1].func, ast.Attribute)]
        self.assert_each(lambda node: node.func.attr in OWN_METHODS or node.func.attr in own
                         or node.func.attr in DUNDERS, calls)

    def test_lists_and_dicts_of_a_top_are_only_read(self):
        holders = {name[:-3]: top_holders(tree) for name, tree in trees()}
        for name, tree in trees():
            held = list(holders[name[:-3]])
            for row in tree.body:
                if isinstance(row, ast.ImportFrom):
                    file = row.module.partition(".")[2]
                    held.extend(alias.name for alias in row.names if alias.name in holders[file])
            places = reading_places(tree)
            self.assert_each(lambda node: any(node is place for place in places),
                             [(name, node, node.lineno) for node in ast.walk(tree) if isinstance(node, ast.Name)
                              and node.id in held and isinstance(node.ctx, ast.Load)])

    def test_what_is_walked_at_once_is_not_kept(self):
        for name, tree in trees():
            places = walking_places(tree)
            self.assert_each(lambda node: any(node is place for place in places),
                             [(name, node, node.lineno) for node in ast.walk(tree) if is_walked_at_once(node)])

    def test_sets_are_not_kept(self):
        for name, tree in trees():
            places = set_places(tree)
            self.assert_each(lambda node: any(node is place for place in places),
                             [(name, node, node.lineno) for node in ast.walk(tree) if isinstance(node, ast.Set)
                              or isinstance(node, ast.Call) and isinstance(node.func, ast.Name)
                              and node.func.id in ("set", "frozenset")])

    def test_methods_and_values_have_names_of_their_own(self):
        methods = {row.name for name, node, line in self.of_kind(ast.ClassDef) for row in node.body
                   if isinstance(row, ast.FunctionDef)}
        taken = {name for kind in (str, int, list, dict, set, bytes, tuple) for name in dir(kind)}
        for name in methods - DUNDERS - OWN_METHODS - {"add", "discard"}:
            self.assertNotIn(name, taken)
        for name, node, line in self.of_kind(ast.Attribute):
            if isinstance(node.ctx, ast.Store):
                self.assertNotIn(node.attr, methods, f"{name}, line {line}")
                self.assertNotIn(node.attr, taken - FREE_VALUES, f"{name}, line {line}")

    def test_no_local_is_called_like_a_class_or_an_import(self):
        for name, tree in trees():
            taken = [row.name for row in tree.body if isinstance(row, ast.ClassDef)]
            for row in tree.body:
                if isinstance(row, ast.ImportFrom):
                    taken.extend(alias.name for alias in row.names)
            for node in ast.walk(tree):
                if not isinstance(node, (ast.ClassDef, ast.Attribute)):
                    for bound in bound_names(node):
                        self.assertNotIn(bound, taken, f"{name}, line {getattr(node, 'lineno', 0)}")

    def test_tops(self):
        for name, tree in trees():
            self.assertIsNotNone(ast.get_docstring(tree), name)
            self.assert_each(lambda row: isinstance(row, TOP_STATEMENTS),
                             [(name, row, row.lineno) for row in tree.body])
            names = top_names(tree)
            self.assertEqual(len(names), len(set(names)), name)

    def test_imports(self):
        tops = {name[:-3]: top_names(tree) for name, tree in trees()}
        drawn = {name: [] for name in tops}
        for name, node, line in self.of_kind(ast.ImportFrom):
            self.assertEqual(node.level, 0, f"{name}, line {line}")
            self.assertRegex(node.module, r"\Afreshsheet\.[a-z0-9_]+\Z")
            file = node.module.partition(".")[2]
            drawn[name[:-3]].append(file)
            for alias in node.names:
                self.assertIn(alias.name, tops[file], f"{name}, line {line}")
        while drawn:
            free = [name for name in drawn if not any(file in drawn for file in drawn[name])]
            self.assertTrue(free, "files that draw from one another")
            drawn = {name: files for name, files in drawn.items() if name not in free}


if __name__ == "__main__":
    unittest.main()
