"""Rules of the Python subset that can be seen in the files of the package."""

import ast
import builtins
import importlib
import pathlib
import re
import unittest

PACKAGE = pathlib.Path(__file__).parent.parent / "lateforms"
FILES = sorted(PACKAGE.glob("*.py"))
ALLOWED = set(
    "len range enumerate zip min max sum abs sorted reversed int str bool list tuple dict set isinstance ord repr"
    " any all divmod iter next property staticmethod classmethod super map ValueError TypeError".split()
)
METHODS = set(
    "append clear copy count endswith extend find get index insert isalnum isalpha isdigit islower isspace isupper"
    " items join keys ljust lower lstrip partition pop remove replace reverse rfind rjust rpartition rsplit rstrip"
    " setdefault split splitlines startswith strip update upper values zfill bit_length".split()
)
BARRED = set(
    "register mro elements open input law version_info with_traceback add_note attrgetter breakpoint builtins compile"
    " copyright credits delattr dir eval exec exit gc getattr globals hasattr help id importlib license locals"
    " methodcaller os quit setattr type vars sys format".split()
)
WORDS = re.compile(
    r"\b(type|typing|typing_extensions|enum|Enum|IntEnum|StrEnum|Flag|IntFlag|Generic|Protocol|ABC|ABCMeta|namedtuple"
    r"|NamedTuple|TypedDict|TYPE_CHECKING|abstractmethod|metaclass|Meta|_wall|_WallAttr)\b"
    r"|dataclass|overload|contextmanager"
)
DUNDERS = set(
    "__init__ __eq__ __str__ __add__ __radd__ __sub__ __rsub__ __mul__ __rmul__ __neg__"
    " __call__ __contains__ __getitem__ __iter__ __len__ __ne__".split()
)
BAD_NODES = (
    ast.Global, ast.Nonlocal, ast.AsyncFunctionDef, ast.Await, ast.GeneratorExp, ast.SetComp, ast.Set, ast.NamedExpr,
    ast.Div, ast.Lambda, ast.Match, ast.With, ast.AnnAssign, ast.ImportFrom, ast.Import, ast.Assert,
)
STATEMENTS = (ast.FunctionDef, ast.ClassDef, ast.ImportFrom, ast.Assign)


def names_in(node):
    """The names that a node gives to something."""
    if isinstance(node, (ast.FunctionDef, ast.ClassDef)):
        return [node.name]
    if isinstance(node, ast.arg):
        return [node.arg]
    if isinstance(node, ast.Name) and isinstance(node.ctx, ast.Store):
        return [node.id]
    return []


class TestLanguage(unittest.TestCase):
    """L1 to L28, as far as a look at the code tells."""

    def each(self):
        for path in FILES:
            text = path.read_text("ascii")
            yield path.stem, text, ast.parse(text)

    def test_the_folder(self):
        inside = [path.name for path in PACKAGE.iterdir() if path.name != "__pycache__"]
        self.assertEqual(sorted(inside), [path.name for path in FILES])
        for path in FILES:
            self.assertRegex(path.stem, r"^[a-z_]+$")
            self.assertNotIn(path.stem, dir(builtins))

    def test_characters_and_sizes(self):
        for name, text, tree in self.each():
            self.assertRegex(text, r"^[\n -~]*$")
            lines = text.split("\n")
            self.assertLessEqual(len(lines), 399, name)
            self.assertLessEqual(max(map(len, lines)), 120, name)
            for node in ast.walk(tree):
                if isinstance(node, ast.FunctionDef):
                    self.assertLessEqual(node.end_lineno - node.lineno + 1, 40, (name, node.name))
                if isinstance(node, ast.Constant) and isinstance(node.value, (str, float)):
                    self.assertNotIsInstance(node.value, float)
                    self.assertNotIn(chr(37), node.value)

    def test_module_level(self):
        for name, _, tree in self.each():
            self.assertIsNotNone(ast.get_docstring(tree), name)
            imports_done = False
            for node in tree.body[1:]:
                self.assertIsInstance(node, STATEMENTS, name)
                if isinstance(node, ast.ImportFrom):
                    self.assertFalse(imports_done)
                    self.assertEqual((node.level, node.module[:10]), (0, "lateforms."))
                    module = ast.parse((PACKAGE / (node.module[10:] + ".py")).read_text())
                    known = [defined for row in module.body for defined in self.bound(row)]
                    for alias in node.names:
                        self.assertIsNone(alias.asname)
                        self.assertIn(alias.name, known)
                        # nothing is imported in vain
                        used = [other.id for other in ast.walk(tree) if isinstance(other, ast.Name)]
                        self.assertIn(alias.name, used, (name, alias.name))
                else:
                    imports_done = True
                if isinstance(node, ast.Assign):
                    self.check_value(tree, node)

    def check_value(self, tree, node):
        """A plain value, or a dict of functions that stand above."""
        above = [row.name for row in tree.body if isinstance(row, ast.FunctionDef) and row.lineno < node.lineno]
        if isinstance(node.value, ast.Dict) and all(isinstance(value, ast.Name) for value in node.value.values):
            for key, value in zip(node.value.keys, node.value.values):
                ast.literal_eval(key)
                self.assertIn(value.id, above)
        else:
            ast.literal_eval(node.value)

    def bound(self, node):
        if isinstance(node, ast.Assign):
            return [target.id for target in node.targets]
        return names_in(node)

    def test_no_circles(self):
        sources = {name: [node.module[10:] for node in tree.body if isinstance(node, ast.ImportFrom)]
                   for name, _, tree in self.each()}
        while sources:
            ready = [name for name in sources if not any(other in sources for other in sources[name])]
            self.assertTrue(ready, sources)
            sources = {name: sources[name] for name in sources if name not in ready}

    def test_nodes(self):
        for name, _, tree in self.each():
            for top in tree.body:
                for node in ast.walk(top):
                    if not isinstance(top, ast.ImportFrom):
                        self.assertNotIsInstance(node, BAD_NODES, (name, getattr(node, "lineno", 0)))
                    if isinstance(node, ast.Compare) and any(isinstance(op, (ast.Is, ast.IsNot)) for op in node.ops):
                        self.assertTrue(isinstance(node.comparators[0], ast.Constant), (name, node.lineno))

    def test_names(self):
        for name, _, tree in self.each():
            imported = [alias.name for node in tree.body if isinstance(node, ast.ImportFrom) for alias in node.names]
            classes = [node.name for node in tree.body if isinstance(node, ast.ClassDef)]
            methods = [row for node in tree.body if isinstance(node, ast.ClassDef) for row in node.body]
            for node in ast.walk(tree):
                for given in names_in(node):
                    self.assertNotIn(given, dir(builtins), name)
                    self.assertNotIn(given, BARRED, name)
                    if node not in methods:
                        self.assertNotIn(given, imported, name)
                    if not isinstance(node, ast.ClassDef):
                        self.assertNotIn(given, classes)
                    if given.startswith("__"):
                        self.assertIn(given, DUNDERS)
                if isinstance(node, ast.Name) and node.id in dir(builtins):
                    self.assertIn(node.id, ALLOWED, name)
                if isinstance(node, ast.Attribute):
                    self.assertNotIn(node.attr, BARRED, name)

    def test_words(self):
        for name, text, _ in self.each():
            self.assertIsNone(WORDS.search(text), name)

    def test_decorators(self):
        for name, _, tree in self.each():
            for node in ast.walk(tree):
                if isinstance(node, ast.FunctionDef):
                    for decorator in node.decorator_list:
                        allowed = ("property", "staticmethod", "classmethod", f"{node.name}.setter")
                        self.assertIn(ast.unparse(decorator), allowed, name)
                if isinstance(node, ast.ClassDef):
                    self.assertEqual(node.decorator_list, [])

    def test_method_names(self):
        """A property is not a method, a static method no attribute, a method no attribute anywhere."""
        methods, properties, statics, attributes, functions, generators = [], [], [], [], [], []
        for _, _, tree in self.each():
            for node in ast.walk(tree):
                if isinstance(node, ast.ClassDef):
                    for row in node.body:
                        if isinstance(row, ast.FunctionDef):
                            marks = "".join(ast.unparse(mark) for mark in row.decorator_list)
                            kinds = {"property": properties, f"{row.name}.setter": properties,
                                     "staticmethod": statics, "classmethod": statics}
                            kinds.get(marks, methods).append(row.name)
                if isinstance(node, ast.Attribute) and isinstance(node.ctx, ast.Store):
                    attributes.append(node.attr)
                if isinstance(node, ast.FunctionDef):
                    functions.append(node.name)
                    if any(isinstance(inner, (ast.Yield, ast.YieldFrom)) for inner in ast.walk(node)):
                        generators.append(node.name)
        kinds = [set(methods), set(properties), set(statics), set(attributes)]
        for k, kind in enumerate(kinds):
            for other in kinds[k + 1:]:
                self.assertEqual(kind & other, set())
        for kind in kinds:
            for word in kind:
                for shape in (str, int, list, dict, set, bytes):
                    if word not in ("count",) and not word.startswith("__"):
                        self.assertFalse(hasattr(shape, word), word)
        for word in generators:
            self.assertEqual(functions.count(word), 1)

    def test_properties_and_operators_change_nothing(self):
        """Nor do the functions of the package that they call by name; what they make by a call of a class is new."""
        functions = {}
        for name, _, tree in self.each():
            for node in ast.walk(tree):
                if isinstance(node, ast.FunctionDef):
                    functions.setdefault(node.name, []).append((name, node))
        waiting, done = [], []
        for name, _, tree in self.each():
            for node in ast.walk(tree):
                if isinstance(node, ast.ClassDef):
                    for row in node.body:
                        if isinstance(row, ast.FunctionDef) and (
                                any(ast.unparse(mark) == "property" for mark in row.decorator_list)
                                or row.name.startswith("__") and row.name not in ("__init__", "__call__")):
                            waiting.append((name, row))
        while waiting:
            name, node = waiting.pop()
            done.append(node)
            self.check_changes_nothing(name, node)
            for inner in ast.walk(node):
                if isinstance(inner, ast.Call):
                    word = inner.func.id if isinstance(inner.func, ast.Name) else inner.func.attr
                    waiting += [pair for pair in functions.get(word, []) if pair[1] not in done and pair not in waiting]

    def check_changes_nothing(self, name, function):
        own = [node.targets[0].id for node in ast.walk(function)
               if isinstance(node, ast.Assign) and isinstance(node.targets[0], ast.Name) and (
                   isinstance(node.value, (ast.List, ast.Dict, ast.ListComp))
                   or isinstance(node.value, ast.Call) and ast.unparse(node.value.func) in ("list", "dict", "sorted"))]
        for node in ast.walk(function):
            where = (name, function.name, getattr(node, "lineno", 0))
            self.assertNotIsInstance(node, (ast.AugAssign, ast.Delete, ast.Yield, ast.YieldFrom), where)
            if isinstance(node, ast.Attribute):
                self.assertIsInstance(node.ctx, ast.Load, where)
            if isinstance(node, ast.Subscript) and isinstance(node.ctx, ast.Store):
                self.assertIn(ast.unparse(node.value), own, where)
            if isinstance(node, ast.Call) and isinstance(node.func, ast.Attribute):
                if node.func.attr in ("append", "extend", "pop", "insert", "clear", "remove", "reverse", "setdefault", "update"):
                    self.assertIn(ast.unparse(node.func.value), own, where)

    def test_what_is_finished_at_last(self):
        """In a finally stands nothing but assignments of names and attributes."""
        for name, _, tree in self.each():
            for node in ast.walk(tree):
                if isinstance(node, ast.Try):
                    for row in node.finalbody:
                        self.assertIsInstance(row, ast.Assign)
                        self.assertIsInstance(row.value, (ast.Name, ast.Attribute))
                    for handler in node.handlers:
                        self.assertIn(ast.unparse(handler.type), dir(importlib.import_module("lateforms.errors")), name)

    def test_methods_of_builtin_values(self):
        for name, _, tree in self.each():
            for node in ast.walk(tree):
                if isinstance(node, ast.Call) and isinstance(node.func, ast.Attribute):
                    word = node.func.attr
                    if any(hasattr(shape, word) for shape in (str, int, list, dict, set, bytes)):
                        self.assertTrue(word in METHODS or word in DUNDERS, (name, word))
                        self.assertEqual(node.keywords if word in METHODS else [], [])

    def test_stars(self):
        """Behind a star in a call stand only names, attributes and literals."""
        for name, _, tree in self.each():
            for node in ast.walk(tree):
                if isinstance(node, ast.Call):
                    for given in node.args:
                        if isinstance(given, ast.Starred):
                            self.assertIsInstance(given.value, (ast.Name, ast.Attribute, ast.List, ast.Tuple), (name, node.lineno))

    def test_tables_of_functions(self):
        """A function from a table gets a name before it is called."""
        for name, _, tree in self.each():
            for node in ast.walk(tree):
                if isinstance(node, ast.Call):
                    self.assertIsInstance(node.func, (ast.Name, ast.Attribute), (name, node.lineno))

    def test_views_are_iterated_at_once(self):
        for name, _, tree in self.each():
            parents = {child: node for node in ast.walk(tree) for child in ast.iter_child_nodes(node)}
            for node in ast.walk(tree):
                if isinstance(node, ast.Call) and isinstance(node.func, ast.Name):
                    if node.func.id in ("zip", "enumerate", "range", "reversed", "map", "parts_of", "objects_of", "leaves_of",
                                        "cells_of", "stops_of", "walk"):
                        above = parents[node]
                        fine = isinstance(above, (ast.For, ast.comprehension)) and above.iter is node
                        fine = fine or isinstance(above, ast.Call) and getattr(above.func, "id", "") in ("list", "tuple")
                        self.assertTrue(fine, (name, node.lineno))


if __name__ == "__main__":
    unittest.main()
