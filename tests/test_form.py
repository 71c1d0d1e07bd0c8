"""The form of the package's files, as far as a look at their syntax can tell it."""

import ast
import builtins
import pathlib
import re
import unittest

PACKAGE = pathlib.Path(__file__).resolve().parent.parent / "haulbell"

PYTHON_NAMES = set("""len range enumerate zip min max sum abs sorted reversed int str bool list tuple dict set
    frozenset isinstance ord repr any all divmod Exception ValueError TypeError KeyError IndexError LookupError
    ZeroDivisionError ArithmeticError OverflowError RuntimeError NotImplementedError AttributeError
    StopIteration""".split())
PYTHON_METHODS = set("""append clear copy count endswith extend find get index insert isalnum isalpha isdigit islower
    isspace isupper items join keys ljust lower lstrip partition pop remove replace reverse rfind rjust
    rpartition rsplit rstrip setdefault split splitlines startswith strip update upper values zfill
    bit_length""".split())
DOUBLE = {"__init__", "__eq__", "__repr__", "__str__", "__len__"}
UNUSED = {"register", "mro", "elements", "open", "input", "version_info", "with_traceback", "add_note",
          "format", "format_map"}
WORDS = set("""type typing typing_extensions enum Enum IntEnum StrEnum Flag IntFlag Generic Protocol ABC ABCMeta
    namedtuple NamedTuple TypedDict TYPE_CHECKING abstractmethod""".split())
OUT = (ast.With, ast.Delete, ast.Global, ast.Nonlocal, ast.Assert, ast.Yield, ast.YieldFrom, ast.Await,
       ast.AsyncFunctionDef, ast.AsyncFor, ast.AsyncWith, ast.Match, ast.Import, ast.AnnAssign, ast.SetComp,
       ast.DictComp, ast.GeneratorExp, ast.NamedExpr, ast.Starred, ast.Div)


def files():
    return sorted(PACKAGE.rglob("*.py"))


def trees():
    return [(path, ast.parse(path.read_text("ascii"))) for path in files()]


def nodes(*kinds):
    return [(path, node) for path, tree in trees() for node in ast.walk(tree) if isinstance(node, kinds)]


def methods_and_values():
    methods = {fun.name for path, owner in nodes(ast.ClassDef) for fun in owner.body
               if isinstance(fun, ast.FunctionDef)}
    values = {node.attr for path, node in nodes(ast.Attribute) if isinstance(node.ctx, ast.Store)}
    return methods, values


class Form(unittest.TestCase):
    def test_the_folder_holds_plain_files_alone(self):
        for path in PACKAGE.rglob("*"):
            if path.name != "__pycache__" and path.suffix != ".pyc":
                self.assertRegex(path.name, r"^[a-z0-9_]+\.py$")
                self.assertNotIn(path.stem, dir(builtins))

    def test_signs_and_sizes(self):
        for path in files():
            rows = path.read_text("ascii").split("\n")
            self.assertLessEqual(len(rows), 401, path)
            for row in rows:
                self.assertRegex(row, r"^[ -~]{0,120}$", path)
        for path, fun in nodes(ast.FunctionDef):
            self.assertLessEqual(fun.end_lineno - fun.lineno + 1, 40, (path, fun.name))

    def test_words_that_stand_nowhere(self):
        for path in files():
            text = path.read_text("ascii")
            self.assertEqual(WORDS & set(re.findall(r"\w+", text)), set(), path)
            self.assertIsNone(re.search("dataclass|overload|contextmanager", text), path)
        for path, node in nodes(ast.Constant):
            self.assertNotIsInstance(node.value, (float, complex, bytes), path)
            if isinstance(node.value, str):
                self.assertNotIn("%", node.value, path)

    def test_what_is_not_written(self):
        self.assertEqual([(path, node.lineno) for path, node in nodes(*OUT) if hasattr(node, "lineno")], [])
        self.assertEqual([path for path, node in nodes(ast.Div)], [])
        for path, node in nodes(ast.For, ast.While, ast.Try):
            if isinstance(node, ast.Try):
                self.assertEqual(node.finalbody, [], path)
            else:
                self.assertEqual(node.orelse, [], path)
        for path, node in nodes(ast.Assign):
            self.assertEqual(len(node.targets), 1, (path, node.lineno))
        for path, node in nodes(ast.FunctionDef, ast.ClassDef):
            self.assertEqual(node.decorator_list, [], (path, node.name))

    def test_statements_by_themselves(self):
        for path, tree in trees():
            self.assertIsNotNone(ast.get_docstring(tree), path)
            for node in ast.walk(tree):
                if isinstance(node, ast.Expr) and node != tree.body[0]:
                    self.assertIsInstance(node.value, ast.Call, (path, node.lineno))

    def test_the_top_of_a_file(self):
        for path, tree in trees():
            for node in tree.body[1:]:
                self.assertIsInstance(node, (ast.ImportFrom, ast.FunctionDef, ast.ClassDef, ast.Assign), path)
                if isinstance(node, ast.Assign):
                    ast.literal_eval(node.value)

    def test_classes(self):
        for path, owner in nodes(ast.ClassDef):
            self.assertLessEqual(len(owner.bases), 1, owner.name)
            for node in owner.body:
                self.assertIsInstance(node, (ast.FunctionDef, ast.Pass), owner.name)
            names = [node.name for node in owner.body if isinstance(node, ast.FunctionDef)]
            self.assertEqual(len(names), len(set(names)), owner.name)
        methods, values = methods_and_values()
        self.assertEqual(methods & values, set())

    def test_parameters(self):
        for path, node in nodes(ast.arguments):
            self.assertIsNone(node.vararg, path)
            self.assertIsNone(node.kwarg, path)
            self.assertEqual(node.kwonlyargs + node.posonlyargs, [], path)

    def test_imports(self):
        defined = {f"haulbell.{path.stem}": {node.name for node in tree.body if hasattr(node, "name")}
                   | {node.targets[0].id for node in tree.body if isinstance(node, ast.Assign)}
                   for path, tree in trees()}
        drawn = {name: set() for name in defined}
        for path, node in nodes(ast.ImportFrom):
            self.assertEqual(node.level, 0, path)
            for name in node.names:
                self.assertIn(name.name, defined[node.module], path)
                self.assertIsNone(name.asname, path)
            drawn[f"haulbell.{path.stem}"].add(node.module)
        while drawn:
            free = [name for name in drawn if not drawn[name] & set(drawn)]
            self.assertNotEqual(free, [], "files that draw from one another")
            drawn = {name: drawn[name] for name in drawn if name not in free}

    def test_names(self):
        own = set(dir(builtins))
        for path, node in nodes(ast.Name, ast.arg, ast.FunctionDef, ast.ClassDef, ast.Attribute):
            name = [getattr(node, key) for key in ("id", "arg", "name", "attr") if hasattr(node, key)][0]
            where = (path, node.lineno, name)
            self.assertTrue(not name.startswith("_") or name in DOUBLE, where)
            self.assertNotIn(name, UNUSED, where)
            if isinstance(node, ast.Name) and isinstance(node.ctx, ast.Load) and name in own:
                self.assertIn(name, PYTHON_NAMES, where)
            elif not isinstance(node, ast.Attribute):
                self.assertNotIn(name, own, where)

    def test_locals_are_not_called_like_classes_or_imports(self):
        for path, tree in trees():
            tops = {node.name for node in tree.body if isinstance(node, ast.ClassDef)}
            tops |= {name.name for node in tree.body if isinstance(node, ast.ImportFrom) for name in node.names}
            for node in ast.walk(tree):
                if isinstance(node, ast.arg):
                    self.assertNotIn(node.arg, tops, path)
                if isinstance(node, ast.Name) and isinstance(node.ctx, ast.Store):
                    self.assertNotIn(node.id, tops, path)

    def test_methods_and_values_have_free_names(self):
        taken = {name for kind in (str, int, list, dict, set, bytes) for name in dir(kind)}
        methods, values = methods_and_values()
        for name in (methods | values) - DOUBLE:
            self.assertNotIn(name, taken)
        for path, node in nodes(ast.Attribute):
            self.assertIn(node.attr, methods | values | PYTHON_METHODS | DOUBLE, (path, node.lineno))

    def test_where_classes_stand(self):
        owners = {owner.name for path, owner in nodes(ast.ClassDef)}
        let = [(path, node.func) for path, node in nodes(ast.Call)]
        let += [(path, base) for path, owner in nodes(ast.ClassDef) for base in owner.bases]
        let += [(path, node.type) for path, node in nodes(ast.ExceptHandler)]
        let += [(path, node.value) for path, node in nodes(ast.Attribute) if node.attr == "__init__"]
        for path, node in nodes(ast.Call):
            if isinstance(node.func, ast.Name) and node.func.id == "isinstance":
                let += [(path, kind) for kind in ast.walk(node.args[1]) if isinstance(kind, ast.Name)]
        places = {(path, node.lineno, node.col_offset) for path, node in let}
        for path, node in nodes(ast.Name):
            if node.id in owners:
                self.assertIn((path, node.lineno, node.col_offset), places)

    def test_is_stands_beside_none_and_truths(self):
        for path, node in nodes(ast.Compare):
            for sign, right in zip(node.ops, node.comparators):
                if isinstance(sign, (ast.Is, ast.IsNot)):
                    self.assertIsInstance(right, ast.Constant, (path, node.lineno))
                    self.assertIn(right.value, (None, True, False))


if __name__ == "__main__":
    unittest.main()
