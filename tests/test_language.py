"""The rules of LANGUAGE.md that can be seen in the code of the package."""

import ast
import builtins
import pathlib
import re
import unittest

from errorspans import errors

FOLDER = pathlib.Path(__file__).resolve().parent.parent / "errorspans"
FILES = sorted([path for path in FOLDER.rglob("*") if path.is_file() and path.parent.name != "__pycache__"])

STATEMENTS = (
    ast.FunctionDef, ast.ClassDef, ast.Return, ast.Assign, ast.AugAssign, ast.For, ast.While, ast.If, ast.Raise,
    ast.Try, ast.Assert, ast.Delete, ast.ImportFrom, ast.Expr, ast.Pass, ast.Break, ast.Continue,
)
EXPRESSIONS = (
    ast.BoolOp, ast.BinOp, ast.UnaryOp, ast.Lambda, ast.IfExp, ast.Dict, ast.ListComp, ast.SetComp, ast.DictComp,
    ast.GeneratorExp, ast.Compare, ast.Call, ast.Constant, ast.Attribute, ast.Subscript, ast.Starred, ast.Name,
    ast.List, ast.Tuple, ast.Slice, ast.Set, ast.JoinedStr, ast.FormattedValue,
)
USED_BUILTINS = set("""len range enumerate zip min max sum abs sorted reversed int str bool list tuple dict set isinstance
    ord repr any all divmod ValueError KeyError""".split())
BUILTIN_METHODS = set("""append clear copy count endswith extend find get index insert isalnum isalpha isdigit islower
    isspace isupper items join keys ljust lower lstrip partition pop remove replace reverse rfind rjust rpartition rsplit
    rstrip setdefault split splitlines startswith strip update upper values zfill bit_length add discard""".split())
SPECIAL_METHODS = {"__init__", "__eq__", "__len__"}
BARRED_NAMES = set("""register mro elements open input version_info with_traceback add_note breakpoint builtins compile
    copyright credits delattr dir eval exec exit gc getattr globals hasattr help id importlib license locals os quit
    setattr super vars sys args format""".split())
BARRED_WORDS = re.compile(r"\b(type|typing|typing_extensions|enum|Enum|IntEnum|StrEnum|Flag|IntFlag|Generic|Protocol|ABC|"
                          r"ABCMeta|namedtuple|NamedTuple|TypedDict|TYPE_CHECKING|abstractmethod)\b"
                          r"|dataclass|overload|contextmanager")
OWN_ERRORS = {name for name, value in vars(errors).items() if isinstance(value, type)}
TAKE_LISTS = {"any", "all", "min", "max", "sum", "sorted"}


def called_name(node):
    return node.func.id if isinstance(node, ast.Call) and isinstance(node.func, ast.Name) else None


def bound_names(tree):
    """Return all names that the code gives a meaning, attributes left out."""
    found = set()
    for node in ast.walk(tree):
        if isinstance(node, ast.Name) and isinstance(node.ctx, ast.Store):
            found.add(node.id)
        elif isinstance(node, ast.arg):
            found.add(node.arg)
        elif isinstance(node, (ast.FunctionDef, ast.ClassDef)):
            found.add(node.name)
    return found


def local_names(function):
    """Return the parameters and variables of a function."""
    names = bound_names(function)
    names.discard(function.name)
    return names


class LanguageTest(unittest.TestCase):

    @classmethod
    def setUpClass(cls):
        cls.sources = {path.stem: path.read_text(encoding="utf-8") for path in FILES}
        cls.trees = {name: ast.parse(source) for name, source in cls.sources.items()}

    def nodes(self, *kinds):
        for name, tree in self.trees.items():
            for node in ast.walk(tree):
                if isinstance(node, kinds):
                    yield name, node

    def test_files(self):
        self.assertIn("__init__", self.sources)
        for path in FILES:
            self.assertEqual(path.parent, FOLDER)
            self.assertRegex(path.name, r"^[a-z][a-z0-9_]*\.py$|^__init__\.py$")

    def test_sizes_and_characters(self):
        for name, source in self.sources.items():
            rows = source.split("\n")
            self.assertLessEqual(len(rows), 400, name)
            self.assertLessEqual(max([len(row) for row in rows]), 120, name)
            self.assertRegex(source, r"^[ -~\n]*$", name)
            self.assertIsNone(BARRED_WORDS.search(source), name)
        for name, node in self.nodes(ast.FunctionDef):
            self.assertLessEqual(node.end_lineno - node.lineno + 1, 40, (name, node.name))

    def test_statements_and_expressions(self):
        for name, node in self.nodes(ast.stmt):
            self.assertIsInstance(node, STATEMENTS, (name, node.lineno))
        for name, node in self.nodes(ast.expr):
            self.assertIsInstance(node, EXPRESSIONS, (name, node.lineno))
        for name, node in self.nodes(ast.BinOp):
            self.assertNotIsInstance(node.op, (ast.Div, ast.Pow, ast.MatMult), (name, node.lineno))
        for name, node in self.nodes(ast.FunctionDef, ast.ClassDef):
            self.assertEqual(node.decorator_list, [], (name, node.lineno))
        for name, node in self.nodes(ast.Constant):
            self.assertNotIsInstance(node.value, (float, complex, bytes), (name, node.lineno))
            if isinstance(node.value, str):
                self.assertNotIn("%", node.value, (name, node.lineno))

    def test_module_level(self):
        for name, tree in self.trees.items():
            bound = []
            for at, node in enumerate(tree.body):
                if isinstance(node, ast.Expr):
                    self.assertEqual(at, 0, name)
                    self.assertIsInstance(node.value, ast.Constant, name)
                elif isinstance(node, ast.ImportFrom):
                    bound += [alias.name for alias in node.names]
                elif isinstance(node, ast.Assign):
                    self.assertEqual(len(node.targets), 1, name)
                    if not self.is_table_of(node.value, bound):
                        ast.literal_eval(node.value)
                    bound += [target.id for target in node.targets]
                else:
                    self.assertIsInstance(node, (ast.FunctionDef, ast.ClassDef), (name, node.lineno))
                    bound.append(node.name)
            self.assertEqual(len(bound), len(set(bound)), name)

    def is_table_of(self, value, names):
        """Return whether a value at module level is a dict of functions defined above."""
        return isinstance(value, ast.Dict) and all([isinstance(part, ast.Name) and part.id in names for part in value.values])

    def test_finally(self):
        for name, node in self.nodes(ast.Try):
            rows = list(node.finalbody)
            while rows:
                row = rows.pop()
                if isinstance(row, ast.If):
                    self.assertRegex(ast.unparse(row.test), r"^[a-z.]+ is (not )?None$", (name, row.lineno))
                    rows += row.body + row.orelse
                else:
                    self.assertIsInstance(row, (ast.Assign, ast.Pass), (name, row.lineno))
                    self.assertIsInstance(row.value, (ast.Name, ast.Attribute, ast.Constant), (name, row.lineno))
                    self.assertIsInstance(row.targets[0], (ast.Name, ast.Attribute), (name, row.lineno))

    def test_handlers(self):
        for name, node in self.nodes(ast.ExceptHandler):
            self.assertIsInstance(node.type, ast.Name, (name, node.lineno))
            self.assertIn(node.type.id, {*OWN_ERRORS, "KeyError"}, (name, node.lineno))
        for name, node in self.nodes(ast.Raise):
            if node.exc is not None:
                self.assertIn(called_name(node.exc), OWN_ERRORS, (name, node.lineno))

    def test_special_methods_end_as_they_must(self):
        for name, node in self.nodes(ast.FunctionDef):
            if node.name in ("__eq__", "__len__"):
                self.assertIsInstance(node.body[-1], ast.Return, (name, node.lineno))
            if node.name == "__len__":
                self.assertEqual([called_name(row.value) for row in node.body], ["len"], (name, node.lineno))

    def test_no_set_is_stored(self):
        for name, node in self.nodes(ast.Assign):
            if isinstance(node.value, (ast.Set, ast.SetComp)) or called_name(node.value) == "set":
                self.fail((name, node.lineno))
            if isinstance(node.value, ast.BinOp):
                for side in (node.value.left, node.value.right):
                    self.assertNotEqual(called_name(side), "set", (name, node.lineno))

    def test_imports(self):
        graph = {}
        for name, tree in self.trees.items():
            graph[name] = set()
            for node in ast.walk(tree):
                if isinstance(node, ast.ImportFrom):
                    self.assertEqual(node.level, 0, name)
                    package, _, module = node.module.partition(".")
                    self.assertEqual(package, "errorspans", name)
                    graph[name].add(module)
                    defined = bound_names(ast.Module([row for row in self.trees[module].body
                                                      if not isinstance(row, ast.ImportFrom)], []))
                    for alias in node.names:
                        self.assertIn(alias.name, defined, name)
                        self.assertIsNone(alias.asname, name)
        while graph:
            ready = [name for name in graph if not graph[name]]
            self.assertTrue(ready, graph)
            for name in ready:
                del graph[name]
            graph = {name: needs - set(ready) for name, needs in graph.items()}

    def test_names(self):
        for name, tree in self.trees.items():
            attributes = {node.attr for node in ast.walk(tree) if isinstance(node, ast.Attribute)}
            for word in bound_names(tree) | attributes:
                if word not in SPECIAL_METHODS:
                    self.assertRegex(word, r"^[A-Za-z][A-Za-z0-9_]*$", name)
                self.assertNotIn(word, BARRED_NAMES, name)
            taken = set(dir(builtins))
            for node in tree.body:
                if isinstance(node, ast.ImportFrom):
                    taken |= {alias.name for alias in node.names}
                elif isinstance(node, ast.ClassDef):
                    taken.add(node.name)
            for node in ast.walk(tree):
                if isinstance(node, ast.FunctionDef):
                    self.assertEqual(local_names(node) & taken, set(), (name, node.name))

    def test_builtins(self):
        for name, node in self.nodes(ast.Name):
            if isinstance(node.ctx, ast.Load) and node.id in dir(builtins):
                self.assertIn(node.id, USED_BUILTINS, (name, node.lineno))

    def test_methods_and_attributes(self):
        methods, attributes = set(), set()
        for _, node in self.nodes(ast.ClassDef):
            methods |= {row.name for row in node.body if isinstance(row, ast.FunctionDef)}
        for _, node in self.nodes(ast.Attribute):
            if isinstance(node.ctx, ast.Store):
                attributes.add(node.attr)
        self.assertEqual(methods & attributes, set())
        called = {id(node.func) for _, node in self.nodes(ast.Call)}
        for name, node in self.nodes(ast.Attribute):
            if id(node) in called:
                self.assertIn(node.attr, methods | BUILTIN_METHODS, (name, node.lineno))
            else:
                self.assertIn(node.attr, attributes, (name, node.lineno))

    def test_special_methods(self):
        for name, node in self.nodes(ast.FunctionDef):
            if node.name.startswith("__"):
                self.assertIn(node.name, SPECIAL_METHODS, name)

    def test_generators_and_sets_stand_where_they_may(self):
        for name, node in self.nodes(ast.AST):
            for child in ast.iter_child_nodes(node):
                if isinstance(child, ast.GeneratorExp):
                    self.assertIn(called_name(node), {"tuple", "list", "dict"}, (name, child.lineno))
                if isinstance(child, (ast.Set, ast.SetComp)) or called_name(child) == "set":
                    fits = called_name(node) in ("sorted", "len") or isinstance(node, (ast.Compare, ast.BinOp))
                    self.assertTrue(fits, (name, child.lineno))
            if called_name(node) in TAKE_LISTS:
                self.assertFalse([child for child in node.args if isinstance(child, ast.GeneratorExp)], name)

    def test_is_only_with_constants(self):
        for name, node in self.nodes(ast.Compare):
            for sign, right in zip(node.ops, node.comparators):
                if isinstance(sign, (ast.Is, ast.IsNot)):
                    self.assertIsInstance(right, ast.Constant, (name, node.lineno))


if __name__ == "__main__":
    unittest.main()
