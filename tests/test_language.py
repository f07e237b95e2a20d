"""The package's own files keep to the small part of Python that the project allows."""

import ast
import pathlib
import re
import unittest

PACKAGE = pathlib.Path(__file__).resolve().parent.parent / "exacttables"

STATEMENTS = (ast.Assign, ast.AugAssign, ast.If, ast.While, ast.For, ast.Return, ast.Break, ast.Continue, ast.Pass,
              ast.Raise, ast.Try, ast.Expr, ast.FunctionDef, ast.ClassDef, ast.ImportFrom)
EXPRESSIONS = (ast.BinOp, ast.UnaryOp, ast.BoolOp, ast.Compare, ast.IfExp, ast.Call, ast.Attribute, ast.Subscript,
               ast.Slice, ast.ListComp, ast.Name, ast.Constant, ast.List, ast.Tuple, ast.Dict, ast.Lambda)
OPERATORS = (ast.Add, ast.Sub, ast.Mult, ast.FloorDiv, ast.Mod, ast.Pow, ast.BitAnd, ast.BitOr, ast.BitXor,
             ast.LShift, ast.RShift)
OWN_NAMES = set("""len range enumerate zip min max sum abs sorted reversed int str bool list tuple dict set frozenset
    isinstance ord repr any all divmod Exception ValueError TypeError KeyError IndexError LookupError
    ZeroDivisionError ArithmeticError OverflowError RuntimeError NotImplementedError StopIteration""".split())
METHODS = set("""append clear copy count endswith extend find get index insert isalnum isalpha isdigit islower isspace
    isupper items join keys ljust lower lstrip partition pop remove replace reverse rfind rjust rpartition rsplit
    rstrip setdefault split splitlines startswith strip update upper values zfill bit_length""".split())
UNUSED = set("register mro elements open input version_info with_traceback add_note".split())
UNWRITTEN = re.compile(r"\b(type|typing|typing_extensions|enum|Enum|IntEnum|StrEnum|Flag|IntFlag|Generic|Protocol|ABC|"
                       r"ABCMeta|namedtuple|NamedTuple|TypedDict|TYPE_CHECKING|abstractmethod)\b"
                       r"|dataclass|overload|contextmanager")


def files():
    return sorted(PACKAGE.glob("*.py"))


def trees():
    return [(path.name, ast.parse(path.read_text())) for path in files()]


def bound_names(tree):
    names = set()
    for node in ast.walk(tree):
        if isinstance(node, (ast.FunctionDef, ast.ClassDef)):
            names.add(node.name)
        elif isinstance(node, ast.arg):
            names.add(node.arg)
        elif isinstance(node, ast.alias):
            names.add(node.name)
        elif isinstance(node, ast.Name) and isinstance(node.ctx, ast.Store):
            names.add(node.id)
    return names


class Language(unittest.TestCase):
    def test_files(self):
        self.assertTrue((PACKAGE / "__init__.py").is_file())
        for path in PACKAGE.iterdir():
            if path.name != "__pycache__":
                self.assertRegex(path.name, r"^[a-z0-9_]+\.py$")

    def test_signs_and_sizes(self):
        for path in files():
            text = path.read_text()
            self.assertRegex(text, r"\A[ -~\n]*\Z", path.name)
            self.assertIsNone(UNWRITTEN.search(text), path.name)
            lines = text.splitlines()
            self.assertLessEqual(len(lines), 400, path.name)
            self.assertLessEqual(max(len(line) for line in lines), 120, path.name)

    def test_function_sizes(self):
        for name, tree in trees():
            for node in ast.walk(tree):
                if isinstance(node, ast.FunctionDef):
                    self.assertLessEqual(node.end_lineno - node.lineno + 1, 40, (name, node.name))
                    plain = node.args
                    self.assertFalse(plain.vararg or plain.kwarg or plain.kwonlyargs or node.decorator_list, node.name)

    def test_statements_and_expressions(self):
        for name, tree in trees():
            for node in ast.walk(tree):
                place = (name, getattr(node, "lineno", 0))
                if isinstance(node, ast.stmt):
                    self.assertIsInstance(node, STATEMENTS, place)
                    self.assertFalse(isinstance(node, (ast.For, ast.While)) and node.orelse, place)
                    self.assertFalse(isinstance(node, ast.Assign) and not self.plain_target(node), place)
                    self.assertFalse(isinstance(node, ast.Try) and node.finalbody, place)
                elif isinstance(node, ast.expr):
                    self.assertIsInstance(node, EXPRESSIONS, place)
                elif isinstance(node, ast.operator):
                    self.assertIsInstance(node, OPERATORS, place)
                elif isinstance(node, ast.comprehension):
                    self.assertLessEqual(len(node.ifs), 1, place)
                if isinstance(node, ast.ListComp):
                    self.assertEqual(len(node.generators), 1, place)
                if isinstance(node, ast.Constant):
                    self.assertIsInstance(node.value, (int, str, type(None)), place)
                    self.assertFalse(isinstance(node.value, str) and "%" in node.value, place)

    def plain_target(self, node):
        return len(node.targets) == 1 and isinstance(node.targets[0], (ast.Name, ast.Attribute, ast.Subscript))

    def test_imports(self):
        drawn = {}
        for name, tree in trees():
            drawn[name] = []
            for node in ast.walk(tree):
                if isinstance(node, ast.ImportFrom):
                    self.assertEqual(node.level, 0, name)
                    self.assertTrue(node.module.startswith("exacttables."), name)
                    self.assertTrue(all(part.name != "*" and part.asname is None for part in node.names), name)
                    drawn[name].append(node.module.split(".")[1] + ".py")
        while drawn:
            ready = [name for name in drawn if not set(drawn[name]) & set(drawn)]
            self.assertTrue(ready, f"files draw from one another: {sorted(drawn)}")
            drawn = {name: drawn[name] for name in drawn if name not in ready}

    def test_names(self):
        methods = {node.name for name, tree in trees() for node in ast.walk(tree) if isinstance(node, ast.FunctionDef)}
        for name, tree in trees():
            bound = bound_names(tree)
            for word in bound - {"__init__"}:
                self.assertRegex(word, r"^[A-Za-z][A-Za-z0-9_]*$", name)
                self.assertNotIn(word, dir(__builtins__) if not isinstance(__builtins__, dict) else __builtins__, name)
                self.assertNotIn(word, UNUSED, name)
            for node in ast.walk(tree):
                if isinstance(node, ast.Name) and node.id not in bound:
                    self.assertIn(node.id, OWN_NAMES, (name, node.lineno))
                if isinstance(node, ast.Call) and isinstance(node.func, ast.Attribute):
                    self.assertIn(node.func.attr, METHODS | methods, (name, node.lineno))

    def test_methods_and_values_have_other_names(self):
        methods, values = set(), set()
        for name, tree in trees():
            for node in ast.walk(tree):
                if isinstance(node, ast.ClassDef):
                    methods.update(inner.name for inner in node.body if isinstance(inner, ast.FunctionDef))
                if isinstance(node, ast.Attribute) and isinstance(node.ctx, ast.Store):
                    values.add(node.attr)
        self.assertFalse(methods & values)

    def test_values_of_objects_are_called_by_free_names(self):
        own = set().union(*[dir(kind) for kind in (str, int, list, tuple, dict, set, frozenset, bytes)])
        free = set("count index title find get join lower upper split strip copy add".split())
        for name, tree in trees():
            for node in ast.walk(tree):
                if isinstance(node, ast.Attribute) and isinstance(node.ctx, ast.Store):
                    self.assertNotIn(node.attr, own - free, (name, node.lineno))

    def test_each_name_of_the_top_is_bound_once(self):
        for name, tree in trees():
            bound = []
            for node in tree.body:
                if isinstance(node, (ast.FunctionDef, ast.ClassDef)):
                    bound.append(node.name)
                elif isinstance(node, ast.ImportFrom):
                    bound += [part.name for part in node.names]
                elif isinstance(node, ast.Assign):
                    bound.append(node.targets[0].id)
                    self.assertIsInstance(node.value, (ast.Constant, ast.Tuple), (name, node.lineno))
            self.assertEqual(len(bound), len(set(bound)), name)

    def test_names_are_drawn_from_where_they_are_defined_and_used(self):
        defined = {name: {getattr(node, "name", None) or node.targets[0].id for node in tree.body
                          if isinstance(node, (ast.FunctionDef, ast.ClassDef, ast.Assign))} for name, tree in trees()}
        for name, tree in trees():
            used = {node.id for node in ast.walk(tree) if isinstance(node, ast.Name)}
            for node in tree.body:
                if isinstance(node, ast.ImportFrom):
                    for part in node.names:
                        self.assertIn(part.name, defined[node.module.split(".")[1] + ".py"], name)
                        self.assertIn(part.name, used, name)

    def test_no_local_is_called_like_a_name_of_the_top(self):
        for name, tree in trees():
            top = set()
            for node in tree.body:
                if isinstance(node, (ast.FunctionDef, ast.ClassDef)):
                    top.add(node.name)
                elif isinstance(node, ast.ImportFrom):
                    top.update(part.name for part in node.names)
            for node in tree.body:
                if isinstance(node, (ast.FunctionDef, ast.ClassDef)):
                    inner = set().union(*[bound_names(child) for child in ast.iter_child_nodes(node)])
                    self.assertFalse(inner & top, (name, node.name))


if __name__ == "__main__":
    unittest.main()
