"""The package's files keep to the part of Python that the program is written in."""

import ast
import pathlib
import re
import unittest

PACKAGE = pathlib.Path(__file__).resolve().parent.parent / "factrulesdesk"

NODES = (
    "Module Import ImportFrom alias FunctionDef arguments arg ClassDef Return Assign AugAssign For While If Raise Try "
    "ExceptHandler Expr Pass Break Continue BoolOp BinOp UnaryOp Lambda IfExp Dict List Tuple Set ListComp "
    "comprehension Compare Call Constant JoinedStr FormattedValue Attribute Subscript Slice Name Load Store And Or "
    "Add Sub Mult FloorDiv Mod Pow BitAnd BitOr BitXor LShift RShift Invert Not USub UAdd Eq NotEq Lt LtE Gt GtE Is "
    "IsNot In NotIn keyword"
).split()
ERRORS = (
    "Exception ValueError TypeError KeyError IndexError LookupError ZeroDivisionError ArithmeticError OverflowError "
    "RuntimeError NotImplementedError AttributeError StopIteration"
).split()
BUILT_IN = ERRORS + (
    "len range enumerate zip min max sum abs sorted reversed int str bool list tuple dict set frozenset isinstance "
    "ord repr any all divmod"
).split()
METHODS = (
    "append clear copy count endswith extend find get index insert isalnum isalpha isdigit islower isspace isupper "
    "items join keys ljust lower lstrip partition pop remove replace reverse rfind rjust rpartition rsplit rstrip "
    "setdefault split splitlines startswith strip update upper values zfill bit_length"
).split()
WORDS_NOWHERE = (
    "type typing typing_extensions enum Enum IntEnum StrEnum Flag IntFlag Generic Protocol ABC ABCMeta namedtuple "
    "NamedTuple TypedDict TYPE_CHECKING abstractmethod"
).split()
NAMES_NOWHERE = (
    "register mro elements open input version_info with_traceback add_note format format_map"
).split()
VALUES_NOWHERE = (
    "items keys values pop update append clear extend insert remove reverse setdefault sort args encode format"
).split()


def sources():
    return [(path, path.read_text("utf-8")) for path in sorted(PACKAGE.rglob("*.py"))]


def trees():
    return [(path.name, ast.parse(text)) for path, text in sources()]


def own_methods():
    """Give the names of all methods of the package's classes."""
    return {
        item.name
        for name, tree in trees() for node in ast.walk(tree) if isinstance(node, ast.ClassDef)
        for item in node.body if isinstance(item, ast.FunctionDef)
    }


def is_plain(node):
    """Tell whether a value at a file's top is a plain one."""
    if isinstance(node, ast.Constant):
        return node.value is None or isinstance(node.value, (int, str))
    if isinstance(node, (ast.List, ast.Tuple)):
        return all(is_plain(item) for item in node.elts)
    if isinstance(node, ast.Dict):
        return all(is_plain(item) for item in node.keys + node.values)
    return False


class Language(unittest.TestCase):
    def test_files(self):
        for path in PACKAGE.rglob("*"):
            if path.name != "__pycache__" and path.suffix != ".pyc":
                self.assertRegex(path.name, r"^([a-z][a-z0-9_]*|__init__)\.py$")
                self.assertNotRegex(path.name, r"^(test|tests|testing|test_.*|site|conftest)\.py$")
        self.assertTrue((PACKAGE / "__init__.py").is_file())

    def test_signs_and_sizes(self):
        for path, text in sources():
            self.assertIsNone(re.search(r"[^ -~\n]", text), path)
            self.assertLessEqual(len(text.splitlines()), 400, path)
            for line in text.splitlines():
                self.assertLessEqual(len(line), 120, (path, line))
            for word in WORDS_NOWHERE:
                self.assertIsNone(re.search(r"\b" + word + r"\b", text), (path, word))
            self.assertIsNone(re.search("dataclass|overload|contextmanager", text), path)

    def test_nodes(self):
        for name, tree in trees():
            for node in ast.walk(tree):
                place = (name, getattr(node, "lineno", 0), type(node).__name__)
                self.assertIn(type(node).__name__, NODES, place)
                if isinstance(node, ast.FunctionDef):
                    self.assertLessEqual(node.end_lineno - node.lineno + 1, 40, place)
                    self.assertFalse(node.decorator_list, place)
                    self.assertFalse(node.args.vararg or node.args.kwarg or node.args.kwonlyargs, place)
                    self.assertFalse(node.returns, place)
                if isinstance(node, ast.ClassDef):
                    self.assertLessEqual(len(node.bases), 1, place)
                    self.assertFalse(node.decorator_list or node.keywords, place)
                if isinstance(node, (ast.For, ast.While)):
                    self.assertFalse(node.orelse, place)
                if isinstance(node, ast.Try):
                    self.assertFalse(node.finalbody, place)
                if isinstance(node, ast.Assign):
                    self.assertEqual(len(node.targets), 1, place)
                    self.assertNotIsInstance(node.targets[0], (ast.Tuple, ast.List), place)
                if isinstance(node, ast.ListComp):
                    self.assertEqual(len(node.generators), 1, place)
                    self.assertLessEqual(len(node.generators[0].ifs), 1, place)
                if isinstance(node, ast.FormattedValue):
                    self.assertIsInstance(node.value, ast.Name, place)
                if isinstance(node, ast.Constant):
                    self.assertNotIsInstance(node.value, (float, bytes, complex), place)
                    if isinstance(node.value, str):
                        self.assertNotIn("%", node.value, place)
                if isinstance(node, ast.Compare) and isinstance(node.ops[0], (ast.Is, ast.IsNot)):
                    self.assertIn(ast.unparse(node.comparators[0]), ("None", "True", "False"), place)

    def test_imports(self):
        drawn = {}
        for name, tree in trees():
            module = "factrulesdesk." + name[:-3]
            drawn[module] = set()
            defined = [node for node in ast.walk(tree) if isinstance(node, (ast.Import, ast.ImportFrom))]
            for node in defined:
                self.assertIn(node, tree.body, name)
                self.assertIsInstance(node, ast.ImportFrom, name)
                self.assertEqual(node.level, 0, name)
                self.assertRegex(node.module, r"^factrulesdesk\.[a-z_]+$", name)
                source = ast.parse((PACKAGE / (node.module.split(".")[1] + ".py")).read_text("utf-8"))
                at_top = [item.name for item in source.body if isinstance(item, (ast.FunctionDef, ast.ClassDef))]
                at_top += [item.targets[0].id for item in source.body if isinstance(item, ast.Assign)]
                used = [item.id for item in ast.walk(tree) if isinstance(item, ast.Name)]
                for drawn_name in node.names:
                    self.assertIn(drawn_name.name, at_top, name)
                    self.assertIsNone(drawn_name.asname, name)
                    self.assertIn(drawn_name.name, used, (name, "is not used"))
                drawn[module].add(node.module)
        while drawn:
            free = [module for module in drawn if not drawn[module] & set(drawn)]
            self.assertTrue(free, "files draw from one another")
            for module in free:
                drawn.pop(module)

    def test_tops_of_files(self):
        for name, tree in trees():
            bound = []
            for index, node in enumerate(tree.body):
                if isinstance(node, ast.Assign):
                    self.assertTrue(is_plain(node.value), (name, node.lineno))
                    bound.append(node.targets[0].id)
                elif isinstance(node, (ast.FunctionDef, ast.ClassDef)):
                    bound.append(node.name)
                elif isinstance(node, ast.ImportFrom):
                    bound.extend(item.name for item in node.names)
                else:
                    self.assertIsNotNone(ast.get_docstring(tree), name)
                    self.assertEqual(index, 0, (name, node.lineno))
            self.assertEqual(len(bound), len(set(bound)), name)

    def test_class_bodies(self):
        for name, tree in trees():
            for node in ast.walk(tree):
                if isinstance(node, ast.ClassDef):
                    self.assertIn(node, tree.body, name)
                    for item in node.body[1:]:
                        self.assertIsInstance(item, ast.FunctionDef, (name, item.lineno))
                    self.assertIsNotNone(ast.get_docstring(node), (name, node.lineno))

    def test_names(self):
        python_own = set(dir(__import__("builtins")))
        for name, tree in trees():
            at_top = {item.name for item in tree.body if isinstance(item, (ast.FunctionDef, ast.ClassDef))}
            taken = {item.name for item in tree.body if isinstance(item, ast.ClassDef)}
            for node in tree.body:
                if isinstance(node, ast.ImportFrom):
                    taken |= {item.name for item in node.names}
            for node in ast.walk(tree):
                place = (name, getattr(node, "lineno", 0))
                if isinstance(node, ast.arg) or isinstance(node, ast.Name) and isinstance(node.ctx, ast.Store):
                    given = node.arg if isinstance(node, ast.arg) else node.id
                    self.assertNotIn(given, taken | python_own, place)
                    self.assertNotIn(given, at_top, place)
                    self.assertRegex(given, r"^[A-Za-z][A-Za-z0-9_]*$", place)
                    self.assertNotIn(given, NAMES_NOWHERE, place)
                if isinstance(node, ast.Name) and isinstance(node.ctx, ast.Load) and node.id in python_own:
                    self.assertIn(node.id, BUILT_IN, place)
                if isinstance(node, ast.FunctionDef):
                    self.assertTrue(re.match("[a-z]", node.name) or node.name == "__init__", place)
                    self.assertNotIn(node.name, NAMES_NOWHERE + list(python_own), place)

    def test_methods_and_values(self):
        methods = own_methods()
        of_values = {item for kind in (str, int, list, dict, set, bytes) for item in dir(kind)}
        for name, tree in trees():
            for node in ast.walk(tree):
                if isinstance(node, ast.Call) and isinstance(node.func, ast.Attribute):
                    self.assertIn(node.func.attr, METHODS + sorted(methods), (name, node.lineno))
                if isinstance(node, ast.Attribute) and isinstance(node.ctx, ast.Store):
                    self.assertNotIn(node.attr, methods, (name, node.lineno))
                    self.assertNotIn(node.attr, VALUES_NOWHERE + NAMES_NOWHERE, (name, node.lineno))
                    self.assertNotIn(node.attr, of_values, (name, node.lineno))
        self.assertFalse((methods - {"__init__"}) & of_values)


if __name__ == "__main__":
    unittest.main()
