"""The package keeps to a small part of Python; what of that can be seen in a file is looked at here."""

import ast
import builtins
import pathlib
import re
import unittest

PACKAGE = pathlib.Path(__file__).resolve().parent.parent / "tellsum"

STATEMENTS = (
    ast.Assign, ast.AugAssign, ast.If, ast.While, ast.For, ast.Return, ast.Break, ast.Continue, ast.Pass, ast.Raise,
    ast.Try, ast.Expr, ast.FunctionDef, ast.ClassDef, ast.ImportFrom)
EXPRESSIONS = (
    ast.Constant, ast.Name, ast.List, ast.Tuple, ast.Dict, ast.BinOp, ast.UnaryOp, ast.BoolOp, ast.Compare, ast.IfExp,
    ast.Call, ast.Attribute, ast.Subscript, ast.Slice, ast.ListComp, ast.JoinedStr, ast.FormattedValue, ast.Lambda)
OWN_NAMES = set("""
    len range enumerate zip min max sum abs sorted reversed int str bool list tuple dict set frozenset isinstance ord
    repr any all divmod Exception ValueError TypeError KeyError IndexError LookupError ZeroDivisionError
    ArithmeticError OverflowError RuntimeError NotImplementedError AttributeError StopIteration""".split())
METHODS = set("""
    append clear copy count endswith extend find get index insert isalnum isalpha isdigit islower isspace isupper items
    join keys ljust lower lstrip partition pop remove replace reverse rfind rjust rpartition rsplit rstrip setdefault
    split splitlines startswith strip update upper values zfill bit_length""".split())
WORDS = set("""
    type typing typing_extensions enum Enum IntEnum StrEnum Flag IntFlag Generic Protocol ABC ABCMeta namedtuple
    NamedTuple TypedDict TYPE_CHECKING abstractmethod""".split())
NOT_NAMES = set("""
    register mro elements open input version_info with_traceback add_note attrgetter breakpoint builtins compile
    copyright credits delattr dir eval exec exit gc getattr globals hasattr help id importlib license locals
    methodcaller os quit setattr super vars sys""".split())
TWO_UNDERSCORES = ("__init__", "__eq__", "__repr__", "__str__", "__len__")
WALKED_IN = ("list", "tuple", "dict", "sorted", "sum", "any", "all", "enumerate", "zip")
MODULES = sorted(path.name for path in PACKAGE.iterdir() if path.name != "__pycache__")


def source_of(name):
    return (PACKAGE / name).read_text(encoding="utf-8")


def tree_of(name):
    return ast.parse(source_of(name))


def is_docstring(node):
    return isinstance(node, ast.Expr) and isinstance(node.value, ast.Constant) and isinstance(node.value.value, str)


def called_name(node):
    if isinstance(node, ast.Call) and isinstance(node.func, ast.Name):
        return node.func.id
    return None


def bound_names(tree):
    names = []
    for node in ast.walk(tree):
        if isinstance(node, ast.Name) and isinstance(node.ctx, ast.Store):
            names.append(node.id)
        if isinstance(node, ast.arg):
            names.append(node.arg)
        if isinstance(node, (ast.FunctionDef, ast.ClassDef)):
            names.append(node.name)
    return names


def own_methods():
    classes = [node for name in MODULES for node in tree_of(name).body if isinstance(node, ast.ClassDef)]
    return {part.name for node in classes for part in node.body if isinstance(part, ast.FunctionDef)}


def own_values():
    """The names of what objects keep."""
    return {node.attr for name in MODULES for node in ast.walk(tree_of(name))
            if isinstance(node, ast.Attribute) and isinstance(node.ctx, ast.Store)}


def walked_nodes(tree):
    """The calls that stand where a walk begins at once."""
    walked = []
    for node in ast.walk(tree):
        if isinstance(node, (ast.For, ast.comprehension)):
            walked.append(node.iter)
        if called_name(node) in WALKED_IN and node.args:
            walked.append(node.args[0])
        if called_name(node) in ("min", "max") and len(node.args) == 1 and not node.keywords:
            walked.append(node.args[0])
    return walked


class EachFile(unittest.TestCase):
    def each(self, look):
        for name in MODULES:
            with self.subTest(file=name):
                look(tree_of(name))

    def test_files_are_plain(self):
        for name in MODULES:
            self.assertRegex(name, r"^[a-z_0-9]+\.py$")
            text = source_of(name)
            self.assertRegex(text, r"\A[ -~\n]*\Z")
            self.assertLessEqual(len(text.splitlines()), 400)
            self.assertLessEqual(max(len(row) for row in text.splitlines()), 120)
            self.assertTrue(text.endswith("\n"))

    def test_words_that_stand_nowhere(self):
        for name in MODULES:
            text = source_of(name)
            self.assertEqual(WORDS & set(re.findall(r"\w+", text)), set())
            self.assertNotRegex(text, "dataclass|overload|contextmanager")

    def test_the_top_of_a_file(self):
        self.each(self.look_at_the_top)

    def look_at_the_top(self, tree):
        self.assertTrue(is_docstring(tree.body[0]))
        for node in tree.body[1:]:
            self.assertIsInstance(node, (ast.ImportFrom, ast.FunctionDef, ast.ClassDef, ast.Assign))
        tops = [node.name for node in tree.body if isinstance(node, (ast.FunctionDef, ast.ClassDef))]
        for node in tree.body:
            if isinstance(node, ast.ImportFrom):
                tops += [alias.name for alias in node.names]
            if isinstance(node, ast.Assign):
                self.assertIsInstance(node.value, (ast.Constant, ast.Tuple, ast.List, ast.Dict))
                tops.append(node.targets[0].id)
        self.assertEqual(len(tops), len(set(tops)))

    def test_statements_and_expressions(self):
        self.each(self.look_at_statements_and_expressions)

    def look_at_statements_and_expressions(self, tree):
        for node in ast.walk(tree):
            if isinstance(node, ast.stmt):
                self.assertIsInstance(node, STATEMENTS)
            if isinstance(node, ast.expr):
                self.assertIsInstance(node, EXPRESSIONS)
            if isinstance(node, ast.Expr) and node is not tree.body[0]:
                self.assertIsInstance(node.value, ast.Call)
            if isinstance(node, ast.Assign):
                self.assertEqual(len(node.targets), 1)
                self.assertNotIsInstance(node.targets[0], (ast.Tuple, ast.List))
            if isinstance(node, (ast.For, ast.While)):
                self.assertEqual(node.orelse, [])
            if isinstance(node, ast.ListComp):
                self.assertEqual(len(node.generators), 1)
                self.assertLessEqual(len(node.generators[0].ifs), 1)
                self.assertFalse(any(isinstance(part, ast.ListComp) for part in ast.walk(node) if part is not node))
            if isinstance(node, ast.BinOp):
                self.assertNotIsInstance(node.op, (ast.Div, ast.MatMult))
            if isinstance(node, ast.Constant):
                self.assertIn(type(node.value), (int, str, bool, type(None)))
                if isinstance(node.value, str):
                    self.assertNotIn(chr(37), node.value)
            if isinstance(node, ast.Compare) and any(isinstance(op, (ast.Is, ast.IsNot)) for op in node.ops):
                self.assertIsInstance(node.comparators[-1], ast.Constant)

    def test_functions_and_classes(self):
        self.each(self.look_at_functions_and_classes)

    def look_at_functions_and_classes(self, tree):
        for node in ast.walk(tree):
            if isinstance(node, ast.FunctionDef):
                self.assertLessEqual(node.end_lineno - node.lineno + 1, 40)
                self.assertEqual(node.decorator_list, [])
                handed = node.args
                self.assertEqual((handed.posonlyargs, handed.kwonlyargs, handed.vararg, handed.kwarg),
                                 ([], [], None, None))
                self.assertIsNone(node.returns)
            if isinstance(node, ast.arg):
                self.assertIsNone(node.annotation)
            if isinstance(node, ast.ClassDef):
                self.assertIn(node, tree.body)
                self.assertLessEqual(len(node.bases), 1)
                self.assertEqual(node.decorator_list + node.keywords, [])
                for part in node.body:
                    self.assertIsInstance(part, (ast.FunctionDef, ast.Pass))

    def test_names(self):
        self.each(self.look_at_names)

    def look_at_names(self, tree):
        own = set(bound_names(tree))
        for node in tree.body:
            if isinstance(node, ast.ImportFrom):
                own |= {alias.name for alias in node.names}
        for bound in bound_names(tree):
            if bound not in TWO_UNDERSCORES:
                self.assertRegex(bound, r"^[A-Za-z][A-Za-z0-9_]*$")
                self.assertFalse(hasattr(builtins, bound), bound)
                self.assertNotIn(bound, NOT_NAMES)
        for node in ast.walk(tree):
            if isinstance(node, ast.Name) and node.id not in own:
                self.assertIn(node.id, OWN_NAMES)
            if isinstance(node, ast.Attribute):
                self.assertNotIn(node.attr, NOT_NAMES)

    def test_no_local_is_called_like_an_import_or_a_class(self):
        self.each(self.look_at_locals)

    def look_at_locals(self, tree):
        tops = [node.name for node in tree.body if isinstance(node, ast.ClassDef)]
        for node in tree.body:
            if isinstance(node, ast.ImportFrom):
                tops += [alias.name for alias in node.names]
        for node in ast.walk(tree):
            if isinstance(node, ast.FunctionDef):
                inner = [part for child in node.body for part in bound_names(child)]
                self.assertEqual(set(tops) & set(inner + [arg.arg for arg in node.args.args]), set())

    def test_calls(self):
        self.each(self.look_at_calls)

    def look_at_calls(self, tree):
        walked = walked_nodes(tree)
        for node in ast.walk(tree):
            if called_name(node) in ("zip", "enumerate", "reversed", "range"):
                self.assertIn(node, walked)
            if isinstance(node, ast.Call):
                self.assertLessEqual({word.arg for word in node.keywords}, {"key", "default", "reverse", "start"})
            if isinstance(node, ast.Call) and isinstance(node.func, ast.Attribute):
                self.assertIn(node.func.attr, METHODS | own_methods() | set(TWO_UNDERSCORES))
            if isinstance(node, ast.ExceptHandler):
                self.assertNotIn(getattr(node.type, "id", None), (None, "Exception", "TypeError"))

    def test_methods_and_values_of_objects(self):
        self.assertEqual(own_methods() & own_values(), set())
        pythons = {part for kind in (str, int, list, tuple, dict, set, bytes) for part in dir(kind)}
        self.assertEqual((own_methods() | own_values()) & pythons - set(TWO_UNDERSCORES), set())

    def test_what_a_loop_walks_is_not_changed_in_it(self):
        self.each(self.look_at_loops)

    def look_at_loops(self, tree):
        for loop in ast.walk(tree):
            # A copy may be walked.
            if isinstance(loop, ast.For) and called_name(loop.iter) not in ("list", "sorted"):
                walked = {ast.dump(part) for part in ast.walk(loop.iter) if isinstance(part, (ast.Name, ast.Attribute))}
                for node in ast.walk(loop):
                    if isinstance(node, ast.Subscript) and isinstance(node.ctx, ast.Store):
                        self.assertNotIn(ast.dump(node.value), walked)
                    if isinstance(node, ast.Call) and isinstance(node.func, ast.Attribute):
                        if node.func.attr in ("append", "extend", "insert", "pop", "remove", "clear", "update"):
                            self.assertNotIn(ast.dump(node.func.value), walked)

    def test_no_sets_but_on_the_spot(self):
        for name in MODULES:
            for node in ast.walk(tree_of(name)):
                self.assertNotIn(called_name(node), ("set", "frozenset"))

    def test_imports(self):
        drawn = {}
        for name in MODULES:
            tree = tree_of(name)
            drawn[name] = []
            for node in ast.walk(tree):
                if isinstance(node, ast.ImportFrom):
                    self.assertIn(node, tree.body)
                    self.assertEqual(node.level, 0)
                    self.assertRegex(node.module, r"^tellsum\.[a-z]+$")
                    source = node.module.split(".")[1] + ".py"
                    drawn[name].append(source)
                    defined = [part.name for part in tree_of(source).body
                               if isinstance(part, (ast.FunctionDef, ast.ClassDef))]
                    used = {part.id for part in ast.walk(tree) if isinstance(part, ast.Name)}
                    for alias in node.names:
                        self.assertIn(alias.name, defined)
                        self.assertIsNone(alias.asname)
                        self.assertIn(alias.name, used)
        while drawn:
            done = [name for name in drawn if not any(source in drawn for source in drawn[name])]
            self.assertNotEqual(done, [], "files draw from one another")
            drawn = {name: drawn[name] for name in drawn if name not in done}


if __name__ == "__main__":
    unittest.main()
