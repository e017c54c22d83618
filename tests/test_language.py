"""The package's files keep to the rules of the language that can be read off their form."""

import ast
import pathlib
import re
import unittest

TOP = pathlib.Path(__file__).resolve().parent.parent
PACKAGE = TOP / "latestturn"

OWN_OF_PYTHON = set(
    "len range enumerate zip min max sum abs sorted reversed int str bool list tuple dict set frozenset isinstance ord "
    "repr any all divmod Exception ValueError TypeError KeyError IndexError LookupError ZeroDivisionError "
    "ArithmeticError OverflowError RuntimeError NotImplementedError AttributeError StopIteration".split()
)
METHODS_OF_PYTHON = set(
    "append clear copy count endswith extend find get index insert isalnum isalpha isdigit islower isspace isupper "
    "items join keys ljust lower lstrip partition pop remove replace reverse rfind rjust rpartition rsplit rstrip "
    "setdefault split splitlines startswith strip update upper values zfill bit_length".split()
)
UNDERSCORED = {"__init__", "__eq__", "__repr__", "__str__", "__len__"}
BANNED_WORDS = re.compile(
    r"\b(type|typing|typing_extensions|enum|Enum|IntEnum|StrEnum|Flag|IntFlag|Generic|Protocol|ABC|ABCMeta|namedtuple|"
    r"NamedTuple|TypedDict|TYPE_CHECKING|abstractmethod)\b|dataclass|overload|contextmanager"
)
BANNED_NAMES = set(
    "register mro elements open input version_info with_traceback add_note attrgetter breakpoint builtins compile "
    "copyright credits delattr dir eval exec exit gc getattr globals hasattr help id importlib license locals "
    "methodcaller os quit setattr super vars sys chr print format format_map".split()
)
ALLOWED = (
    ast.Module, ast.ImportFrom, ast.alias, ast.FunctionDef, ast.ClassDef, ast.arguments, ast.arg, ast.Lambda,
    ast.Assign, ast.AugAssign, ast.If, ast.While, ast.For, ast.Return, ast.Break, ast.Continue, ast.Pass, ast.Raise,
    ast.Try, ast.ExceptHandler, ast.Expr, ast.Constant, ast.List, ast.Tuple, ast.Dict, ast.Set, ast.BinOp,
    ast.UnaryOp, ast.BoolOp, ast.Compare, ast.IfExp, ast.Call, ast.keyword, ast.Attribute, ast.Subscript, ast.Slice,
    ast.ListComp, ast.comprehension, ast.JoinedStr, ast.FormattedValue, ast.Name, ast.expr_context, ast.operator,
    ast.unaryop, ast.boolop, ast.cmpop,
)


def trees():
    return {path.stem: ast.parse(path.read_text("ascii")) for path in sorted(PACKAGE.glob("*.py"))}


def nodes(kind):
    """Each node of that kind, with the words by which a failure tells it."""
    for name, tree in trees().items():
        for node in ast.walk(tree):
            if isinstance(node, kind):
                yield node, f"{name}.py:{getattr(node, 'lineno', 0)}"


def bound_at_top(tree):
    names = []
    for node in tree.body:
        if isinstance(node, (ast.FunctionDef, ast.ClassDef)):
            names.append(node.name)
        elif isinstance(node, ast.Assign):
            names.append(node.targets[0].id)
        elif isinstance(node, ast.ImportFrom):
            names += [alias.name for alias in node.names]
    return names


def own_methods():
    return {part.name for node, where in nodes(ast.ClassDef) for part in node.body if isinstance(part, ast.FunctionDef)}


def own_values():
    return {node.attr for node, where in nodes(ast.Attribute) if isinstance(node.ctx, ast.Store)}


class Files(unittest.TestCase):
    def test_only_plain_files(self):
        for path in PACKAGE.iterdir():
            if path.name != "__pycache__":
                self.assertRegex(path.name, r"^([a-z][a-z0-9_]*|__init__|__main__)\.py$")
        self.assertTrue((PACKAGE / "__init__.py").is_file())

    def test_size_signs_and_words(self):
        for path in PACKAGE.glob("*.py"):
            text = path.read_text("ascii")
            self.assertRegex(text, r"^[ -~\n]*$", path.name)
            self.assertIsNone(BANNED_WORDS.search(text), path.name)
            self.assertLessEqual(len(text.splitlines()), 400, path.name)
            for line in text.splitlines():
                self.assertLessEqual(len(line), 120, (path.name, line))

    def test_functions_have_at_most_forty_lines(self):
        for node, where in nodes(ast.FunctionDef):
            self.assertLessEqual(node.end_lineno - node.lineno + 1, 40, where)


class Forms(unittest.TestCase):
    def test_nodes(self):
        for node, where in nodes(ast.AST):
            self.assertIsInstance(node, ALLOWED, where)
            self.assertFalse(getattr(node, "decorator_list", []), where)
        for node, where in nodes((ast.While, ast.For)):
            self.assertFalse(node.orelse, where)
        for node, where in nodes(ast.Try):
            self.assertFalse(node.finalbody, where)
        for node, where in nodes(ast.BinOp):
            self.assertNotIsInstance(node.op, (ast.Div, ast.MatMult), where)
        for node, where in nodes(ast.ListComp):
            self.assertEqual(len(node.generators), 1, where)
            self.assertLessEqual(len(node.generators[0].ifs), 1, where)

    def test_values(self):
        for node, where in nodes(ast.Constant):
            self.assertIsInstance(node.value, (int, str, bool, type(None)), where)
            self.assertNotIn("%", str(node.value), where)

    def test_assignments_have_one_target(self):
        for node, where in nodes(ast.Assign):
            self.assertEqual(len(node.targets), 1, where)
            self.assertNotIsInstance(node.targets[0], (ast.Tuple, ast.List), where)

    def test_parameters_are_plain(self):
        for node, where in nodes(ast.arguments):
            self.assertFalse(node.vararg or node.kwarg or node.kwonlyargs or node.posonlyargs, where)

    def test_is_stands_beside_none_true_and_false(self):
        for node, where in nodes(ast.Compare):
            for sign, other in zip(node.ops, node.comparators):
                if isinstance(sign, (ast.Is, ast.IsNot)):
                    self.assertIsInstance(other, ast.Constant, where)
                    self.assertTrue(other.value is None or isinstance(other.value, bool), where)

    def test_calls_by_themselves(self):
        for name, tree in trees().items():
            for node in ast.walk(tree):
                if isinstance(node, ast.Expr) and node != tree.body[0]:
                    self.assertIsInstance(node.value, ast.Call, f"{name}.py:{node.lineno}")

    def test_classes(self):
        for node, where in nodes(ast.ClassDef):
            self.assertLessEqual(len(node.bases), 1, where)
            for part in node.body:
                self.assertIsInstance(part, (ast.FunctionDef, ast.Pass), where)


class Names(unittest.TestCase):
    def test_imports(self):
        drawn = {}
        for name, tree in trees().items():
            drawn[name] = []
            for node in ast.walk(tree):
                if isinstance(node, ast.ImportFrom):
                    self.assertIn(node, tree.body, name)
                    self.assertRegex(node.module or "", r"^latestturn\.[a-z][a-z0-9_]*$", name)
                    drawn[name].append(node.module.partition(".")[2])
        self.assertEqual(drawn["__init__"], [])
        placed = {"__init__"}
        while len(placed) < len(drawn):
            ready = [name for name in drawn if name not in placed and placed.issuperset(drawn[name])]
            self.assertTrue(ready, "files draw from one another")
            placed.update(ready)

    def test_imports_are_from_the_file_that_defines(self):
        all_trees = trees()
        for node, where in nodes(ast.ImportFrom):
            source = all_trees[node.module.partition(".")[2]]
            defined = [part.name for part in source.body if isinstance(part, (ast.FunctionDef, ast.ClassDef))]
            defined += [part.targets[0].id for part in source.body if isinstance(part, ast.Assign)]
            for alias in node.names:
                self.assertIn(alias.name, defined, where)
                self.assertIsNone(alias.asname, where)

    def test_each_name_is_bound_once_at_the_top(self):
        for name, tree in trees().items():
            bound = bound_at_top(tree)
            self.assertEqual(len(bound), len(set(bound)), name)

    def test_names_are_plain_and_known(self):
        for name, tree in trees().items():
            local = {node.arg for node in ast.walk(tree) if isinstance(node, ast.arg)}
            local |= {node.id for node in ast.walk(tree)
                      if isinstance(node, ast.Name) and isinstance(node.ctx, ast.Store)}
            local |= {node.name for node in ast.walk(tree) if isinstance(node, ast.FunctionDef)}
            local |= {node.name for node in ast.walk(tree) if isinstance(node, ast.ExceptHandler) and node.name}
            for each in local - UNDERSCORED:
                self.assertRegex(each, r"^[A-Za-z][A-Za-z0-9_]*$", name)
            self.assertFalse(local & (OWN_OF_PYTHON | BANNED_NAMES), name)
            known = local | OWN_OF_PYTHON | set(bound_at_top(tree))
            for node in ast.walk(tree):
                if isinstance(node, ast.Name):
                    self.assertIn(node.id, known, f"{name}.py:{node.lineno}")

    def test_parameters_and_locals_are_not_called_like_classes_or_imports(self):
        for name, tree in trees().items():
            top = [node.name for node in tree.body if isinstance(node, ast.ClassDef)]
            for node in tree.body:
                if isinstance(node, ast.ImportFrom):
                    top += [alias.name for alias in node.names]
            for node in ast.walk(tree):
                if isinstance(node, ast.arg):
                    self.assertNotIn(node.arg, top, f"{name}.py:{node.lineno}")
                if isinstance(node, ast.Name) and isinstance(node.ctx, ast.Store):
                    self.assertNotIn(node.id, top, f"{name}.py:{node.lineno}")

    def test_methods_and_values(self):
        self.assertFalse(own_methods() & own_values())
        known = own_methods() | own_values() | METHODS_OF_PYTHON | UNDERSCORED
        for node, where in nodes(ast.Attribute):
            self.assertIn(node.attr, known, where)
            self.assertNotIn(node.attr, BANNED_NAMES, where)

    def test_methods_and_values_are_not_called_like_those_of_python(self):
        taken = {name for kind in (str, int, list, dict, set, bytes) for name in dir(kind)}
        self.assertFalse((own_methods() - UNDERSCORED - METHODS_OF_PYTHON - {"add", "discard"}) & taken)
        values = set("count index title find get join lower upper split strip copy add".split())
        self.assertFalse((own_values() - values) & (taken | {"args"}))

    def test_no_method_stands_twice(self):
        for node, where in nodes(ast.ClassDef):
            names = [part.name for part in node.body if isinstance(part, ast.FunctionDef)]
            self.assertEqual(len(names), len(set(names)), where)

    def test_no_method_with_two_underscores_but_those_that_may_be(self):
        for node, where in nodes(ast.FunctionDef):
            if node.name.startswith("_"):
                self.assertIn(node.name, UNDERSCORED, where)


if __name__ == "__main__":
    unittest.main()
