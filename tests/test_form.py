"""The form of the package's own files: the rules L1 to L28 so far as they can be read off the text."""

import ast
import builtins
import pathlib
import re
import unittest

ROOT = pathlib.Path(__file__).resolve().parent.parent
PACKAGE = ROOT / "indexwise"

BUILTINS = set("""len range enumerate zip min max sum abs sorted reversed int str bool list tuple dict set frozenset
isinstance ord repr any all divmod Exception ValueError TypeError KeyError IndexError LookupError ZeroDivisionError
ArithmeticError OverflowError RuntimeError NotImplementedError AttributeError StopIteration""".split())
METHODS = set("""append clear copy count endswith extend find get index insert isalnum isalpha isdigit islower isspace
isupper items join keys ljust lower lstrip partition pop remove replace reverse rfind rjust rpartition rsplit rstrip
setdefault split splitlines startswith strip update upper values zfill bit_length""".split())
DUNDERS = {"__init__", "__eq__", "__repr__", "__str__", "__len__"}
NODES = set("""Module FunctionDef ClassDef Return Assign AugAssign For While If Raise Try ImportFrom Expr Pass Break
Continue BoolOp BinOp UnaryOp Lambda IfExp Dict ListComp Compare Call JoinedStr FormattedValue Constant Attribute
Subscript Name List Tuple Slice Load Store comprehension ExceptHandler arguments arg keyword alias And Or Add Sub Mult
Mod Pow LShift RShift BitOr BitXor BitAnd FloorDiv Invert Not UAdd USub Eq NotEq Lt LtE Gt GtE Is IsNot In
NotIn""".split())
NO_WORDS = re.compile(r"\b(type|typing|typing_extensions|enum|Enum|IntEnum|StrEnum|Flag|IntFlag|Generic|Protocol|ABC"
                      r"|ABCMeta|namedtuple|NamedTuple|TypedDict|TYPE_CHECKING|abstractmethod)\b"
                      r"|dataclass|overload|contextmanager")
NO_NAMES = set("""register mro elements open input version_info with_traceback add_note attrgetter breakpoint builtins
compile copyright credits delattr dir eval exec exit gc getattr globals hasattr help id importlib license locals
methodcaller os quit setattr super vars sys format format_map""".split())
PLAIN = re.compile(r"[A-Za-z][A-Za-z0-9_]*")
TOP = (ast.ImportFrom, ast.FunctionDef, ast.ClassDef, ast.Assign)
WALKERS = {"zip", "enumerate", "reversed", "range"}


def files():
    return sorted(path for path in PACKAGE.rglob("*") if "__pycache__" not in path.parts)


def text_of(path):
    return path.read_bytes().decode("utf-8")


def tree_of(path):
    return ast.parse(text_of(path))


def defined(tree):
    names = [node.name for node in tree.body if isinstance(node, (ast.FunctionDef, ast.ClassDef))]
    return names + [node.targets[0].id for node in tree.body if isinstance(node, ast.Assign)]


def drawn(tree):
    return [node for node in tree.body if isinstance(node, ast.ImportFrom)]


def plain(node):
    if isinstance(node, (ast.List, ast.Tuple)):
        return all(plain(each) for each in node.elts)
    if isinstance(node, ast.Dict):
        return all(plain(each) for each in node.keys + node.values)
    return isinstance(node, (ast.Constant, ast.Name))


class FormTest(unittest.TestCase):

    def each(self, *kinds):
        for path in files():
            for node in ast.walk(tree_of(path)):
                if isinstance(node, kinds):
                    yield f"{path.name}:{getattr(node, 'lineno', 0)}", node

    def test_files(self):
        self.assertIn(PACKAGE / "__init__.py", files())
        for path in files():
            self.assertRegex(path.name, r"\A([a-z][a-z0-9_]*|__init__|__main__)\.py\Z")
            self.assertNotRegex(path.stem, r"\A(test.*|site|conftest|sitecustomize|usercustomize)\Z")
            self.assertNotIn(path.stem, dir(builtins))
            self.assertIsNone(NO_WORDS.fullmatch(path.stem))

    def test_signs_and_sizes(self):
        for path in files():
            lines = text_of(path).split("\n")
            self.assertLessEqual(len(lines), 401, path.name)
            for number, line in enumerate(lines, start=1):
                self.assertRegex(line, r"\A[ -~]{0,120}\Z", f"{path.name}:{number}")
                self.assertIsNone(NO_WORDS.search(line), f"{path.name}:{number}")

    def test_functions_are_short_and_plain(self):
        for where, node in self.each(ast.FunctionDef):
            self.assertLessEqual(node.end_lineno - node.lineno + 1, 40, where)
            self.assertFalse(node.decorator_list or node.returns, where)
        for where, node in self.each(ast.arguments):
            self.assertFalse(node.vararg or node.kwarg or node.kwonlyargs or node.posonlyargs, where)
            self.assertTrue(all(plain(default) for default in node.defaults), where)
        for where, node in self.each(ast.arg):
            self.assertIsNone(node.annotation, where)

    def test_imports(self):
        for where, node in self.each(ast.ImportFrom):
            self.assertEqual(node.level, 0, where)
            self.assertRegex(node.module, r"\Aindexwise\.[a-z]+\Z", where)
            there = defined(tree_of(PACKAGE / (node.module.split(".")[1] + ".py")))
            for name in node.names:
                self.assertIn(name.name, there, where)

    def test_no_two_files_draw_from_one_another(self):
        left = {path.stem: {node.module.split(".")[1] for node in drawn(tree_of(path))} for path in files()}
        while left:
            free = [stem for stem in left if not left[stem] & set(left)]
            self.assertTrue(free, f"a ring among {sorted(left)}")
            for stem in free:
                del left[stem]

    def test_tops(self):
        for path in files():
            tree = tree_of(path)
            self.assertIsNotNone(ast.get_docstring(tree), path.name)
            for node in tree.body[1:]:
                self.assertIsInstance(node, TOP, f"{path.name}:{node.lineno}")
                self.assertTrue(not isinstance(node, ast.Assign) or plain(node.value), f"{path.name}:{node.lineno}")
            names = defined(tree) + [name.name for node in drawn(tree) for name in node.names]
            self.assertEqual(len(names), len(set(names)), path.name)

    def test_classes(self):
        for where, node in self.each(ast.ClassDef):
            self.assertLessEqual(len(node.bases), 1, where)
            self.assertFalse(node.keywords or node.decorator_list, where)
            for inner in node.body:
                self.assertIsInstance(inner, (ast.FunctionDef, ast.Pass), where)
            methods = [inner.name for inner in node.body if isinstance(inner, ast.FunctionDef)]
            self.assertEqual(len(methods), len(set(methods)), where)

    def test_methods_and_values_bear_other_names(self):
        methods = {inner.name for where, node in self.each(ast.ClassDef) for inner in node.body
                   if isinstance(inner, ast.FunctionDef)}
        values = {node.attr for where, node in self.each(ast.Attribute) if isinstance(node.ctx, ast.Store)}
        self.assertEqual(methods & values, set())

    def test_statements_and_expressions(self):
        for where, node in self.each(ast.AST):
            self.assertIn(node.__class__.__name__, NODES, where)
        for where, node in self.each(ast.Assign):
            self.assertEqual(len(node.targets), 1, where)
            self.assertIsInstance(node.targets[0], (ast.Name, ast.Attribute, ast.Subscript), where)
        for where, node in self.each(ast.For, ast.While):
            self.assertFalse(node.orelse, where)
        for where, node in self.each(ast.FunctionDef, ast.ClassDef):
            for inner in ast.walk(node):
                self.assertTrue(not isinstance(inner, ast.Expr) or isinstance(inner.value, ast.Call), where)
        for where, node in self.each(ast.ListComp):
            self.assertEqual(len(node.generators), 1, where)
            self.assertLessEqual(len(node.generators[0].ifs), 1, where)

    def test_constants(self):
        for where, node in self.each(ast.Constant):
            self.assertIsInstance(node.value, (int, str, type(None)), where)
            self.assertFalse(isinstance(node.value, str) and "%" in node.value, where)
        for where, node in self.each(ast.BinOp):
            if isinstance(node.op, ast.Pow):
                self.assertTrue(isinstance(node.right, ast.Constant) and 0 <= node.right.value <= 64, where)

    def test_is_stands_beside_none_and_truths(self):
        for where, node in self.each(ast.Compare):
            for op, right in zip(node.ops, node.comparators):
                if isinstance(op, (ast.Is, ast.IsNot)):
                    self.assertTrue(isinstance(right, ast.Constant) and right.value in (None, True, False), where)

    def test_names(self):
        for where, node in self.each(ast.Name):
            self.assertRegex(node.id, PLAIN, where)
            self.assertNotIn(node.id, NO_NAMES, where)
            self.assertTrue(node.id not in dir(builtins) or node.id in BUILTINS, f"{where} {node.id}")
        for where, node in self.each(ast.FunctionDef, ast.ClassDef):
            self.assertTrue(node.name in DUNDERS or PLAIN.fullmatch(node.name), where)

    def test_no_local_hides_another_name(self):
        for path in files():
            tree = tree_of(path)
            taken = set(dir(builtins)) | {name.name for node in drawn(tree) for name in node.names}
            taken |= {node.name for node in tree.body if isinstance(node, ast.ClassDef)}
            bound = {node.id for node in ast.walk(tree) if isinstance(node, ast.Name) and isinstance(node.ctx, ast.Store)}
            bound |= {node.arg for node in ast.walk(tree) if isinstance(node, ast.arg)}
            self.assertEqual(bound & taken, set(), path.name)

    def test_methods_called(self):
        own = {node.name for where, node in self.each(ast.FunctionDef)}
        for where, node in self.each(ast.Attribute):
            self.assertNotIn(node.attr, NO_NAMES, where)
        for where, node in self.each(ast.Call):
            if isinstance(node.func, ast.Attribute):
                self.assertIn(node.func.attr, METHODS | own, where)

    def test_sets_and_walks_are_not_kept(self):
        for where, node in self.each(ast.Assign, ast.Return):
            if isinstance(node.value, ast.Call) and isinstance(node.value.func, ast.Name):
                self.assertNotIn(node.value.func.id, WALKERS | {"set", "frozenset"}, where)


if __name__ == "__main__":
    unittest.main()
